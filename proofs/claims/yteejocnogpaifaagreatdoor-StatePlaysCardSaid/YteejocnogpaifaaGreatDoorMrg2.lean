/-
  Texts put together: plain mathematics, memory and small contracts of the layers below.
  Conditions: those that each text names.
-/
import Derived.Test.YteejocnogpaifaaGreatDoorMrg1
import Derived.Lib.ItoaNum
import Derived.Lib.Join
import Derived.Test.YteejocnogpaifaaGreatDoorRows
import Derived.Laws.StructEq
import Derived.Deep.Strs
import Derived.Lib.SmallJoins
import Derived.Lib.AppendIntMem
import Derived.RegionTactic
import Derived.Deep.RegionHeld3
import Derived.Lib.ItoaLen
import Derived.BigQuiet
import Derived.Deep.QuietTactic
/-
  What the document's own answers of layer 2 are on whole texts: how many runes, whether it is a name, the masked text: the same plain functions as the program's.
  Conditions: the text has at most 2^47 bytes.
-/
namespace Go.Proofs.YteejocnogpaifaaGreatDoor
open Go.RowKit

theorem dec_zero {l : List UInt8} (h : (dec l).2 = 0) : dec l = (0, 0) := by
  unfold dec at *
  rcases d4_cases (byt l 0) (byt l 1) (byt l 2) (byt l 3) with ⟨p, e⟩ | ⟨p, q, r, e⟩ | ⟨p, q, r, s, t, e⟩ | ⟨p, q, r, s, t, u, e⟩ | ⟨p, e⟩
  · rw [e] at h; cases h
  · rw [e] at h; cases h
  · rw [e] at h; cases h
  · rw [e] at h; cases h
  · exact e
theorem at_bad (s : ByteArray) (i : Nat) (w : World) (hi : i < s.size) (hs : s.size ≤ 140737488355328) (h : (dec (s.data.toList.drop i)).2 = 0) :
    Calls Tryz.prog 87 #[.string s, .int .i64 i] w fun e w' => e = .returned (.tuple #[.int .i32 0, .int .i64 0]) ∧ w = w' := by
  have c := at_any s i w hi hs
  unfold AtIs at c
  rw [dec_zero h] at c
  exact c
theorem at_good (s : ByteArray) (i r k : Nat) (w : World) (hi : i < s.size) (hs : s.size ≤ 140737488355328) (h : dec (s.data.toList.drop i) = (r, k)) :
    Calls Tryz.prog 87 #[.string s, .int .i64 i] w fun e w' => e = .returned (.tuple #[.int .i32 r, .int .i64 k]) ∧ w = w' := by
  have c := at_any s i w hi hs
  unfold AtIs at c
  rw [h] at c
  exact c
theorem wd_bad {l : List UInt8} (h : (dec l).2 = 0) : wd l = 1 := by unfold wd; rw [if_pos h]
theorem wd_good {l : List UInt8} {r k : Nat} (h : dec l = (r, k)) (hk : k ≠ 0) : wd l = k := by unfold wd; rw [h, if_neg hk]
theorem metI_bad {l : List UInt8} (h : (dec l).2 = 0) : metI l = -1 := by unfold metI; rw [if_pos h]
theorem metI_good {l : List UInt8} {r k : Nat} (h : dec l = (r, k)) (hk : k ≠ 0) : metI l = r := by unfold metI; rw [h, if_neg hk]

set_option maxHeartbeats 4000000 in
set_option maxRecDepth 1000000 in
theorem rrunes_any (s : ByteArray) (w : World) (hs : s.size ≤ 140737488355328) :
    Calls Tryz.prog 90 #[.string s] w fun e w' => e = .returned (.int .i64 (runes s.data.toList)) ∧ w = w' := by
  go_enter Tryz.func90, Tryz.ntmps90
  go_wp2
  go_loop [3, 4] (fun n p => ∃ (pos k : Nat), p = .int .i64 pos ∧ n = .int .i64 k ∧ Hid (k + runes (s.data.toList.drop pos) = runes s.data.toList) ∧ pos ≤ s.size ∧ k ≤ pos) (fun _ p => s.size - (intOf p).toNat)
  case atStart => exact ⟨0, 0, rfl, rfl, Lib.hid (by simp), by omega, by omega⟩
  case round =>
    obtain ⟨pos, k, rfl, rfl, hacc, hpos, hal⟩ := hrel
    by_cases hp : pos < s.size
    · have Hstep := Lib.hid (show k + 1 + runes (s.data.toList.drop (pos + wd (s.data.toList.drop pos))) = runes s.data.toList by
        rw [← hacc.out, runes_step _ (drop_ne hp), List.drop_drop]; omega)
      have hws := wd_size hp
      by_cases hb : (dec (s.data.toList.drop pos)).2 = 0
      · have e1 := wd_bad hb
        rw [e1] at Hstep hws
        have C := Lib.hid (fun W => at_bad s pos W hp hs hb)
        clear hb e1
        go_wp2_with (go_at_call 87; ((with_reducible refine (C.out _).mono ?_)); rintro e w' ⟨rfl, rfl⟩)
        go_round
        case rel => exact ⟨pos + 1, k + 1, by go_num, by go_num, Hstep, by omega, by omega⟩
        case measure => simp [intOf]; omega
      · obtain ⟨r, q, hd⟩ : ∃ r q, dec (s.data.toList.drop pos) = (r, q) := ⟨_, _, rfl⟩
        have hq : q ≠ 0 := by rw [hd] at hb; exact hb
        have hbd := dec_bd (s.data.toList.drop pos)
        rw [hd] at hbd
        have e1 := wd_good hd hq
        rw [e1] at Hstep hws
        have C := Lib.hid (fun W => at_good s pos r q W hp hs hd)
        have hq0 : ((q : Int) == 0) = false := by simpa using hq
        have hq1 : 1 ≤ q := by omega
        have hq4 : q ≤ 4 := hbd.2
        clear hb e1 hd hbd hq
        go_wp2_with (go_at_call 87; ((with_reducible refine (C.out _).mono ?_)); rintro e w' ⟨rfl, rfl⟩)
        go_round
        case rel => exact ⟨pos + q, k + 1, by go_num, by go_num, Hstep, by omega, by omega⟩
        case measure => simp [intOf]; omega
    · have he : s.data.toList.drop pos = [] := List.drop_eq_nil_of_le (by rw [Array.length_toList]; show s.size ≤ pos; omega)
      have h := hacc.out
      rw [he, runes_nil, Nat.add_zero] at h
      subst h
      clear he hacc
      go_wp2
      go_ret
      exact ⟨rfl, rfl⟩

theorem bytes_ext {a : ByteArray} {l : List UInt8} (h : a.data.toList = l) : a = ⟨l.toArray⟩ := by
  subst h
  rfl
theorem size_of {a : ByteArray} {l : List UInt8} (h : a.data.toList = l) : a.size = l.length := by
  subst h
  exact Array.length_toList.symm
theorem run_cut (s : ByteArray) (p k : Nat) (h : p + k ≤ s.size) (W : World) : (Instr.slice 9 (.string s) (some (.int .i64 (p : Int))) (some (.int .i64 ((p : Int) + (k : Int)))) none).run Tryz.prog W = .ok (.string (s.extract p (p + k))) W := by
  have e := run_slice_string (P := Tryz.prog) W 9 s .i64 .i64 (p : Int) ((p : Int) + (k : Int)) Tryz.underlying9 (by omega) (by omega) (by omega)
  rw [show ((p : Int)).toNat = p by omega, show ((p : Int) + (k : Int)).toNat = p + k by omega] at e
  exact e
theorem extract_take (s : ByteArray) (p k : Nat) : (s.extract p (p + k)).data.toList = (s.data.toList.drop p).take k := by
  rw [ByteArray.data_extract]
  simp only [Array.toList_extract, List.extract]
  rw [Nat.add_sub_cancel_left]

def RGoodRel (s : ByteArray) (pos : Nat) : Prop :=
  mask s.data.toList = s.data.toList.take pos ++ mask (s.data.toList.drop pos) ∧ (0 < pos → lettI (metI s.data.toList) = true)

set_option maxHeartbeats 4000000 in
set_option maxRecDepth 1000000 in
theorem rgood_any (s : ByteArray) (w : World) (hs : s.size ≤ 140737488355328) :
    Calls Tryz.prog 51 #[.string s] w fun e w' => e = .returned (.bool (nameB s.data.toList)) ∧ w = w' := by
  go_enter Tryz.func51, Tryz.ntmps51
  go_wp2
  go_loop [3] (fun p => ∃ (pos : Nat), p = .int .i64 pos ∧ Hid (RGoodRel s pos) ∧ pos ≤ s.size) (fun p => s.size - (intOf p).toNat)
  case atStart => exact ⟨0, rfl, Lib.hid ⟨by simp, by omega⟩, by omega⟩
  case round =>
    obtain ⟨pos, rfl, hacc, hpos⟩ := hrel
    by_cases hp : pos < s.size
    · have hws := wd_size hp
      have hpl : pos < s.data.toList.length := by rw [Array.length_toList]; exact hp
      by_cases hb : (dec (s.data.toList.drop pos)).2 = 0
      · have Hn := Lib.hid (name_bad hacc.out.1 hpl (by unfold gd; rw [metI_bad hb]; rfl))
        have C := Lib.hid (fun W => at_bad s pos W hp hs hb)
        clear hb
        go_wp2_with (first
            | (go_at_call 87; ((with_reducible refine (C.out _).mono ?_)); rintro e w' ⟨rfl, rfl⟩)
            | (go_at_call 88; ((with_reducible refine (rmay_any _ _).mono ?_)); rintro e w' ⟨rfl, rfl⟩)
            | (go_at_call 89; ((with_reducible refine (rletter_any _ _).mono ?_)); rintro e w' ⟨rfl, rfl⟩))
        go_ret
        exact ⟨ret_bool Hn.out.symm, rfl⟩
      · obtain ⟨r, q, hd'⟩ : ∃ r q, dec (s.data.toList.drop pos) = (r, q) := ⟨_, _, rfl⟩
        have hq : q ≠ 0 := by rw [hd'] at hb; exact hb
        have hbd := dec_bd (s.data.toList.drop pos)
        rw [hd'] at hbd
        have e1 := wd_good hd' hq
        have hm := metI_good hd' hq
        rw [e1] at hws
        have C := Lib.hid (fun W => at_good s pos r q W hp hs hd')
        have hq0 : ((q : Int) == 0) = false := by simpa using hq
        have hq1 : 1 ≤ q := by omega
        have hq4 : q ≤ 4 := hbd.2
        clear hd' hbd hb hq
        cases hf : fitI (r : Int) with
        | false =>
          have Hn := Lib.hid (name_bad hacc.out.1 hpl (by unfold gd; rw [hm]; exact hf))
          clear e1 hm
          go_wp2_with (first
            | (go_at_call 87; ((with_reducible refine (C.out _).mono ?_)); rintro e w' ⟨rfl, rfl⟩)
            | (go_at_call 88; ((with_reducible refine (rmay_any _ _).mono ?_)); rintro e w' ⟨rfl, rfl⟩)
            | (go_at_call 89; ((with_reducible refine (rletter_any _ _).mono ?_)); rintro e w' ⟨rfl, rfl⟩))
          go_ret
          exact ⟨ret_bool Hn.out.symm, rfl⟩
        | true =>
          have hgo := mask_go hacc.out.1 hpl (by unfold gd; rw [hm]; exact hf)
          rw [e1] at hgo
          by_cases hz : pos = 0
          · have z1 : ((pos : Int) == 0) = true := by simpa using hz
            cases hl : lettI (r : Int) with
            | false =>
              have Hn := Lib.hid (name_nolet (l := s.data.toList) (by rw [hz, List.drop_zero] at hm; rw [hm]; exact hl))
              clear e1 hm hgo hz
              go_wp2_with (first
            | (go_at_call 87; ((with_reducible refine (C.out _).mono ?_)); rintro e w' ⟨rfl, rfl⟩)
            | (go_at_call 88; ((with_reducible refine (rmay_any _ _).mono ?_)); rintro e w' ⟨rfl, rfl⟩)
            | (go_at_call 89; ((with_reducible refine (rletter_any _ _).mono ?_)); rintro e w' ⟨rfl, rfl⟩))
              go_ret
              exact ⟨ret_bool Hn.out.symm, rfl⟩
            | true =>
              have Hstep : Hid (RGoodRel s (pos + q)) := Lib.hid ⟨hgo, fun _ => by rw [hz, List.drop_zero] at hm; rw [hm]; exact hl⟩
              clear e1 hm hgo hz
              go_wp2_with (first
            | (go_at_call 87; ((with_reducible refine (C.out _).mono ?_)); rintro e w' ⟨rfl, rfl⟩)
            | (go_at_call 88; ((with_reducible refine (rmay_any _ _).mono ?_)); rintro e w' ⟨rfl, rfl⟩)
            | (go_at_call 89; ((with_reducible refine (rletter_any _ _).mono ?_)); rintro e w' ⟨rfl, rfl⟩))
              go_round
              case rel => exact ⟨pos + q, by go_num, Hstep, by omega⟩
              case measure => simp [intOf]; omega
          · have z1 : ((pos : Int) == 0) = false := by simpa using hz
            have Hstep : Hid (RGoodRel s (pos + q)) := Lib.hid ⟨hgo, fun _ => hacc.out.2 (by omega)⟩
            clear e1 hm hgo
            go_wp2_with (first
            | (go_at_call 87; ((with_reducible refine (C.out _).mono ?_)); rintro e w' ⟨rfl, rfl⟩)
            | (go_at_call 88; ((with_reducible refine (rmay_any _ _).mono ?_)); rintro e w' ⟨rfl, rfl⟩)
            | (go_at_call 89; ((with_reducible refine (rletter_any _ _).mono ?_)); rintro e w' ⟨rfl, rfl⟩))
            go_round
            case rel => exact ⟨pos + q, by go_num, Hstep, by omega⟩
            case measure => simp [intOf]; omega
    · have he : s.data.toList.drop pos = [] := List.drop_eq_nil_of_le (by rw [Array.length_toList]; show s.size ≤ pos; omega)
      obtain ⟨g2, g3⟩ := hacc.out
      rw [he, mask_nil, List.append_nil, List.take_of_length_le (by rw [Array.length_toList]; show s.size ≤ pos; omega)] at g2
      have elen : s.data.toList.length = s.size := Array.length_toList
      by_cases h0 : s.size = 0
      · have e0 : s.data.toList = [] := List.length_eq_zero_iff.1 (by omega)
        have Hn : Hid (nameB s.data.toList = false) := Lib.hid (by rw [e0]; rfl)
        have n1 : s.toList = [] := by rw [ByteArray.toList_eq]; exact e0
        have n2 : (s.toList == []) = true := by simpa using n1
        have n3 : s.toList.isEmpty = true := by simpa using n1
        clear he g2 g3 hacc e0 elen
        go_wp2_with (fail)
        go_ret
        exact ⟨ret_bool Hn.out.symm, rfl⟩
      · have hn : nameB s.data.toList = decide (runes s.data.toList ≤ 64) := by
          have a1 := g3 (by omega)
          have a3 : s.data.toList.isEmpty = false := by
            rw [List.isEmpty_eq_false_iff]
            intro e
            rw [e] at elen
            simp at elen
            omega
          unfold nameB
          rw [a1, a3, g2]
          simp
        have Hn := Lib.hid hn
        have C := Lib.hid (fun W => rrunes_any s W hs)
        have n1 : s.toList ≠ [] := fun e => by rw [ByteArray.toList_eq] at e; rw [e] at elen; simp at elen; omega
        have n2 : (s.toList == []) = false := by simpa using n1
        have n3 : s.toList.isEmpty = false := by simpa using n1
        clear he g2 g3 hn hacc elen n1
        go_wp2_with (go_at_call 90; ((with_reducible refine (C.out _).mono ?_)); rintro e w' ⟨rfl, rfl⟩)
        go_ret
        exact ⟨by rw [Hn.out]; exact ret_bool (by simp; omega), rfl⟩
end Go.Proofs.YteejocnogpaifaaGreatDoor
/-
  Plain mathematics of definitions: what is wrong with one; the decimal digits of a number, read one by one; what a command's key is made of, and that it is so in one way alone. It needs nothing of the program.
  Conditions: none.
-/
namespace Go.Proofs.YteejocnogpaifaaGreatDoor.Df
open Go.Lib (decDigits nDigits)
open Go.Proofs.YteejocnogpaifaaGreatDoor.Bo (P)

/-! ### Digits -/
theorem dig_nat {d : Nat} (h : d < 10) : (UInt8.ofNat (48 + d)).toNat = 48 + d := by rw [UInt8.toNat_ofNat']; omega
theorem dec_big {n : Nat} (h : ¬ n < 10) : decDigits n = decDigits (n / 10) ++ [UInt8.ofNat (48 + n % 10)] := by rw [decDigits, dif_neg h]
theorem dec_dig (n : Nat) : ∀ b ∈ decDigits n, 48 ≤ b.toNat ∧ b.toNat ≤ 57 := by
  induction n using Nat.strongRecOn with
  | ind n ih =>
    intro b hb
    by_cases h : n < 10
    · rw [Go.Lib.decDigits_one h] at hb
      obtain rfl := List.mem_singleton.1 hb
      rw [dig_nat h]
      omega
    · rw [dec_big h] at hb
      rcases List.mem_append.1 hb with hb | hb
      · exact ih (n / 10) (by omega) b hb
      · obtain rfl := List.mem_singleton.1 hb
        rw [dig_nat (by omega)]
        omega
theorem dec_len (n : Nat) : 1 ≤ (decDigits n).length := by
  rw [Go.Lib.decDigits_length]
  exact Go.Lib.nDigits_pos n
theorem dec_ne (n : Nat) : decDigits n ≠ [] := fun e => by
  have := dec_len n
  rw [e] at this
  simp at this
theorem dec_next {n d : Nat} (h : 1 ≤ n) (hd : d < 10) : decDigits (n * 10 + d) = decDigits n ++ [UInt8.ofNat (48 + d)] := by
  rw [dec_big (by omega), show (n * 10 + d) / 10 = n by omega, show (n * 10 + d) % 10 = d by omega]
theorem dec_head (n : Nat) : (decDigits n).head? = some 48 → n = 0 := by
  induction n using Nat.strongRecOn with
  | ind n ih =>
    intro h
    by_cases h9 : n < 10
    · rw [Go.Lib.decDigits_one h9] at h
      simp only [List.head?_cons, Option.some.injEq] at h
      have := congrArg UInt8.toNat h
      rw [dig_nat h9] at this
      have e : (48 : UInt8).toNat = 48 := rfl
      omega
    · rw [dec_big h9] at h
      have hh : (decDigits (n / 10)).head? = some 48 := by
        cases hq : decDigits (n / 10) with
        | nil => exact absurd hq (dec_ne _)
        | cons c t => rw [hq] at h; exact h
      have := ih (n / 10) (by omega) hh
      omega
def val (l : List UInt8) : Nat := l.foldl (fun a b => a * 10 + (b.toNat - 48)) 0
theorem dec_val (n : Nat) : val (decDigits n) = n := by
  induction n using Nat.strongRecOn with
  | ind n ih =>
    by_cases h : n < 10
    · rw [Go.Lib.decDigits_one h]
      show 0 * 10 + ((UInt8.ofNat (48 + n)).toNat - 48) = n
      rw [dig_nat h]
      omega
    · have := ih (n / 10) (by omega)
      rw [dec_big h]
      unfold val at this ⊢
      rw [List.foldl_append, this]
      show n / 10 * 10 + ((UInt8.ofNat (48 + n % 10)).toNat - 48) = n
      rw [dig_nat (by omega)]
      omega
theorem dec_inj {n m : Nat} (h : decDigits n = decDigits m) : n = m := by
  have := congrArg val h
  rwa [dec_val, dec_val] at this

/-! ### A number's text, digit by digit -/
/-- a text that tells a saga's number -/
def Num (t : List UInt8) (m : Nat) : Prop := t = decDigits m ∧ t.length ≤ 18
/-- where a reader of digits stands -/
def NumRel (t : List UInt8) (pos n : Nat) : Prop := (pos = 0 ∧ n = 0) ∨ (1 ≤ pos ∧ t.take pos = decDigits n)
theorem num_step {t : List UInt8} {pos n d : Nat} {b : UInt8} (h : NumRel t pos n) (hb : t[pos]? = some b) (hd : b.toNat = 48 + d) (hd9 : d < 10) (hz : pos = 0 ∨ t.head? ≠ some 48) : NumRel t (pos + 1) (n * 10 + d) := by
  have hbe : b = UInt8.ofNat (48 + d) := UInt8.toNat_inj.1 (by rw [hd, dig_nat hd9])
  refine .inr ⟨by omega, ?_⟩
  rw [List.take_add_one, hb]
  rcases h with ⟨rfl, rfl⟩ | ⟨h1, h2⟩
  · rw [Nat.zero_mul, Nat.zero_add, Go.Lib.decDigits_one hd9, hbe]
    rfl
  · have hn : 1 ≤ n := by
      rcases Nat.eq_zero_or_pos n with h0 | h0
      · subst h0
        rw [Go.Lib.decDigits_one (by omega)] at h2
        rcases hz with hz | hz
        · omega
        · cases t with
          | nil => simp at hb
          | cons c t =>
            obtain ⟨pos, rfl⟩ : ∃ p, pos = p + 1 := ⟨pos - 1, by omega⟩
            rw [List.take_succ_cons] at h2
            injection h2 with h2
            exact absurd (by rw [h2]; rfl) hz
      · exact h0
    rw [h2, dec_next hn hd9, hbe]
    rfl
theorem num_lt {t : List UInt8} {pos n : Nat} (h : NumRel t pos n) (hp : pos ≤ t.length) : n < 10 ^ pos := by
  rcases h with ⟨rfl, rfl⟩ | ⟨h1, h2⟩
  · decide
  · have := Go.Lib.lt_pow_nDigits n
    rw [← Go.Lib.decDigits_length, ← h2, List.length_take, Nat.min_eq_left hp] at this
    exact this
theorem num_lt17 {t : List UInt8} {pos n : Nat} (h : NumRel t pos n) (hp : pos ≤ t.length) (h17 : pos ≤ 17) : n < 100000000000000000 :=
  Nat.lt_of_lt_of_le (num_lt h hp) (Nat.pow_le_pow_right (by decide) h17 : 10 ^ pos ≤ 10 ^ 17)
theorem num_end {t : List UInt8} {n : Nat} (h : NumRel t t.length n) (h0 : t ≠ []) (h18 : t.length ≤ 18) : Num t n := by
  rcases h with ⟨h1, _⟩ | ⟨_, h2⟩
  · exact absurd (List.eq_nil_of_length_eq_zero h1) h0
  · rw [List.take_length] at h2
    exact ⟨h2, h18⟩
theorem num_bad {t : List UInt8} {b : UInt8} (hb : b ∈ t) (hd : b.toNat < 48 ∨ 57 < b.toNat) : ¬ ∃ m, Num t m := by
  rintro ⟨m, h, _⟩
  rw [h] at hb
  have := dec_dig m b hb
  omega
theorem num_empty : ¬ ∃ m, Num [] m := fun ⟨m, h, _⟩ => dec_ne m h.symm
theorem num_long {t : List UInt8} (h : 18 < t.length) : ¬ ∃ m, Num t m := fun ⟨_, _, h18⟩ => by omega
theorem num_zero {t : List UInt8} (h : t.head? = some 48) (h1 : 1 < t.length) : ¬ ∃ m, Num t m := by
  rintro ⟨m, e, _⟩
  rw [e] at h h1
  have := dec_head m h
  subst this
  rw [Go.Lib.decDigits_one (by omega)] at h1
  simp at h1
theorem num_uniq {t : List UInt8} {m k : Nat} (h : Num t m) (h' : Num t k) : m = k := dec_inj (h.1.symm.trans h'.1)
/-- what 'number' answers -/
def NumIs (t : List UInt8) (n : Int) (ok : Bool) : Prop := (ok = true ∧ ∃ m : Nat, n = m ∧ Num t m) ∨ (ok = false ∧ n = 0 ∧ ¬ ∃ m, Num t m)

/-! ### Keys -/
def way : Bool → List UInt8
  | true => [117, 110, 100, 111]
  | false => [100, 111]
theorem way_inj {u v : Bool} (h : way u = way v) : u = v := by cases u <;> cases v <;> first | rfl | (simp [way] at h)
theorem way_no (u : Bool) : (47 : UInt8) ∉ way u := by cases u <;> decide
theorem dec_no (n : Nat) : (47 : UInt8) ∉ decDigits n := fun h => by
  have := (dec_dig n 47 h).1
  have e : (47 : UInt8).toNat = 47 := rfl
  omega
/-- a key, and what it is made of -/
def KeyOf (key : List UInt8) (m : Nat) (x : List UInt8) (u : Bool) : Prop := ∃ ds, Num ds m ∧ nameB x = true ∧ key = ds ++ 47 :: (x ++ 47 :: way u)
theorem key_pieces {key x : List UInt8} {m : Nat} {u : Bool} (h : KeyOf key m x u) : pieces [] key = [decDigits m, x, way u] := by
  obtain ⟨ds, ⟨rfl, _⟩, hx, rfl⟩ := h
  rw [pieces_app _ [] _ (dec_no m), pieces_slash, pieces_app _ [] _ (name_no47 hx), pieces_slash, pieces_none _ _ (way_no u)]
  simp
theorem key_uniq {key x y : List UInt8} {m k : Nat} {u v : Bool} (h : KeyOf key m x u) (h' : KeyOf key k y v) : m = k ∧ x = y ∧ u = v := by
  have e := (key_pieces h).symm.trans (key_pieces h')
  simp only [List.cons.injEq, and_true] at e
  exact ⟨dec_inj e.1, e.2.1, way_inj e.2.2⟩
theorem pieces_cat : ∀ (s w : List UInt8), Lib.join (pieces w s) [47] = w ++ s := by
  intro s
  induction s with
  | nil => intro w; simp [pieces, Lib.join_one]
  | cons b s ih =>
    intro w
    unfold pieces
    split
    · next h =>
      have hi := ih []
      have hp := pieces_pos s []
      rw [List.nil_append] at hi
      subst h
      cases hq : pieces [] s with
      | nil => rw [hq] at hp; simp at hp
      | cons y r =>
        rw [hq, Lib.join_cons] at hi
        rw [Lib.join_cons]
        have e : Lib.joinTail [47] (y :: r) = 47 :: (y ++ Lib.joinTail [47] r) := by simp [Lib.joinTail]
        rw [e, hi]
    · rw [ih (w ++ [b])]
      simp
theorem three {key a b c : List UInt8} (h : pieces [] key = [a, b, c]) : key = a ++ 47 :: (b ++ 47 :: c) := by
  have := pieces_cat key []
  rw [h, List.nil_append] at this
  rw [← this, Lib.join_cons]
  simp [Lib.joinTail]
theorem key_three {key a b c : List UInt8} (h : pieces [] key = [a, b, c]) (m : Nat) (x : List UInt8) (u : Bool) : KeyOf key m x u ↔ Num a m ∧ nameB x = true ∧ b = x ∧ c = way u := by
  constructor
  · intro hk
    have e := h.symm.trans (key_pieces hk)
    simp only [List.cons.injEq, and_true] at e
    obtain ⟨ds, hn, hx, _⟩ := hk
    exact ⟨⟨e.1, by rw [e.1, ← hn.1]; exact hn.2⟩, hx, e.2.1, e.2.2⟩
  · rintro ⟨hn, hx, rfl, rfl⟩
    exact ⟨a, hn, hx, three h⟩
theorem key_not {key : List UInt8} (h : (pieces [] key).length ≠ 3) : ¬ ∃ m x u, KeyOf key m x u := by
  rintro ⟨m, x, u, hk⟩
  rw [key_pieces hk] at h
  exact h rfl
/-- what Cut, and the document's Read, answer -/
def CutIs (key : List UInt8) (n : Int) (x : ByteArray) (u ok : Bool) : Prop :=
  (ok = true ∧ ∃ m : Nat, n = m ∧ KeyOf key m x.data.toList u) ∨ (ok = false ∧ n = 0 ∧ x = ⟨#[]⟩ ∧ u = false ∧ ¬ ∃ m x u, KeyOf key m x u)
theorem bytes_inj {a b : ByteArray} (h : a.data.toList = b.data.toList) : a = b := ByteArray.ext (Array.toList_inj.1 h)
theorem cut_uniq {key : List UInt8} {n n' : Int} {x x' : ByteArray} {u u' ok ok' : Bool} (h : CutIs key n x u ok) (h' : CutIs key n' x' u' ok') : n = n' ∧ x = x' ∧ u = u' ∧ ok = ok' := by
  rcases h with ⟨rfl, m, rfl, hk⟩ | ⟨rfl, rfl, rfl, rfl, hk⟩ <;> rcases h' with ⟨rfl, m', rfl, hk'⟩ | ⟨rfl, rfl, rfl, rfl, hk'⟩
  · obtain ⟨rfl, e, rfl⟩ := key_uniq hk hk'
    exact ⟨rfl, bytes_inj e, rfl, rfl⟩
  · exact absurd ⟨_, _, _, hk⟩ hk'
  · exact absurd ⟨_, _, _, hk'⟩ hk
  · exact ⟨rfl, rfl, rfl, rfl⟩

/-! ### SplitN into at most four pieces -/
def pcs4 (s : ByteArray) : List ByteArray := Lib.splitB ⟨#[47]⟩ 0 (min 4 (s.size + 1) - 1) s
theorem pcs4_pieces (s : ByteArray) : ((pcs4 s).length = 3 → (pcs4 s).map (·.data.toList) = pieces [] s.data.toList) ∧ ((pcs4 s).length ≠ 3 → (pieces [] s.data.toList).length ≠ 3) := by
  have e : (pcs4 s).map (·.data.toList) = Lib.splitK [47] 0 (min 4 (s.size + 1) - 1) s.data.toList := Lib.splitB_data _ _ _ _
  have hl := pieces_len s.data.toList []
  have es : s.data.toList.length = s.size := Array.length_toList
  obtain ⟨h1, h2⟩ := splitK_pieces (min 4 (s.size + 1) - 1) s.data.toList
  have hlen : (pcs4 s).length = ((pcs4 s).map (·.data.toList)).length := by simp
  rw [hlen, e]
  by_cases h : (pieces [] s.data.toList).length ≤ min 4 (s.size + 1) - 1 + 1
  · rw [h1 h]
    exact ⟨fun _ => rfl, fun h => h⟩
  · have h9 := h2 (by omega)
    exact ⟨fun h => by omega, fun _ => by omega⟩

/-! ### The document's own way: every way to cut it is tried -/
def Hit (key : List UInt8) (i k : Nat) (u : Bool) : Prop := key[i + 1]? = some 47 ∧ nameB ((key.take k).drop (i + 2)) = true ∧ key.drop k = 47 :: way u
theorem hit_key {key : List UInt8} {i k n : Nat} {u : Bool} (hd : key.take (i + 1) = decDigits n) (hi : i < 18) (hk : i + 2 ≤ k) (h : Hit key i k u) : KeyOf key n ((key.take k).drop (i + 2)) u := by
  obtain ⟨h1, h2, h3⟩ := h
  have hlt : i + 1 < key.length := by
    rcases Nat.lt_or_ge (i + 1) key.length with h | h
    · exact h
    · rw [List.getElem?_eq_none h] at h1; cases h1
  refine ⟨key.take (i + 1), ⟨hd, by rw [List.length_take]; omega⟩, h2, ?_⟩
  rw [← h3]
  have e1 : key.drop (i + 1) = 47 :: key.drop (i + 2) := by
    rw [List.drop_eq_getElem_cons hlt]
    rw [List.getElem?_eq_getElem hlt] at h1
    injection h1 with h1
    rw [h1]
  have e2 : (key.take k).drop (i + 2) ++ key.drop k = key.drop (i + 2) := by
    conv => rhs; rw [← List.take_append_drop k key]
    have hkl : k ≤ key.length := by
      rcases Nat.lt_or_ge key.length k with h | h
      · rw [List.drop_eq_nil_of_le (by omega)] at h3; cases h3
      · exact h
    rw [List.drop_append, List.length_take, Nat.min_eq_left hkl, show i + 2 - k = 0 by omega, List.drop_zero]
  rw [e2, ← e1, List.take_append_drop]
theorem key_hit {key x : List UInt8} {m : Nat} {u : Bool} (h : KeyOf key m x u) : ∃ i k, i < 18 ∧ i + 1 < key.length ∧ i + 2 ≤ k ∧ k < key.length ∧ (∀ j, j ≤ i → ∃ b, key[j]? = some b ∧ 48 ≤ b.toNat ∧ b.toNat ≤ 57) ∧ Hit key i k u := by
  obtain ⟨ds, ⟨e, hl⟩, hx, rfl⟩ := h
  have h1 : 1 ≤ ds.length := by rw [e]; exact dec_len m
  have hlen : (ds ++ 47 :: (x ++ 47 :: way u)).length = ds.length + 1 + x.length + 1 + (way u).length := by simp only [List.length_append, List.length_cons]; omega
  refine ⟨ds.length - 1, ds.length + 1 + x.length, by omega, by omega, by omega, by omega, fun j hj => ?_, ?_, ?_, ?_⟩
  · refine ⟨ds[j]'(by omega), ?_, ?_⟩
    · rw [List.getElem?_append_left (by omega), List.getElem?_eq_getElem]
    · have := dec_dig m (ds[j]'(by omega)) (by rw [← e]; exact List.getElem_mem _)
      exact this
  · rw [show ds.length - 1 + 1 = ds.length by omega, List.getElem?_append_right (Nat.le_refl _), Nat.sub_self]
    rfl
  · have e2 : ((ds ++ 47 :: (x ++ 47 :: way u)).take (ds.length + 1 + x.length)).drop (ds.length - 1 + 2) = x := by
      rw [show ds ++ 47 :: (x ++ 47 :: way u) = (ds ++ [47]) ++ (x ++ 47 :: way u) by simp, show ds.length + 1 + x.length = (ds ++ [47]).length + x.length by simp, List.take_length_add_append, show ds.length - 1 + 2 = (ds ++ [47]).length by simp; omega, List.drop_left, List.take_left]
    rw [e2]
    exact hx
  · rw [show ds ++ 47 :: (x ++ 47 :: way u) = (ds ++ 47 :: x) ++ (47 :: way u) by simp, show ds.length + 1 + x.length = (ds ++ 47 :: x).length by simp; omega, List.drop_left]
/-- where the document's Read stands -/
structure ReadRel (key : List UInt8) (i n : Nat) : Prop where
  num : NumRel key i n
  dig : ∀ j, j < i → ∃ b, key[j]? = some b ∧ 48 ≤ b.toNat ∧ b.toNat ≤ 57
  no : ∀ j k u, j < i → j + 2 ≤ k → ¬ Hit key j k u
theorem read_start (key : List UInt8) : ReadRel key 0 0 := ⟨.inl ⟨rfl, rfl⟩, fun j h => by omega, fun j k u h => by omega⟩
theorem read_end {key : List UInt8} {i n : Nat} (h : ReadRel key i n) (he : key.length ≤ i ∨ 18 ≤ i ∨ ∃ b, key[i]? = some b ∧ (b.toNat < 48 ∨ 57 < b.toNat)) : ¬ ∃ m x u, KeyOf key m x u := by
  rintro ⟨m, x, u, hk⟩
  obtain ⟨j, k, h1, h2, h3, h4, h5, h6⟩ := key_hit hk
  rcases Nat.lt_or_ge j i with h | h
  · exact ReadRel.no ‹_› j k u h h3 h6
  · rcases he with he | he | ⟨b, hb, hd⟩
    · omega
    · omega
    · obtain ⟨b', hb', hd'⟩ := h5 i h
      rw [hb] at hb'
      injection hb' with hb'
      subst hb'
      omega
theorem read_zero {key : List UInt8} {i n : Nat} (h : ReadRel key i n) (hi : 1 ≤ i) (h0 : key[0]? = some 48) {b : UInt8} (hb : key[i]? = some b) (hd : 48 ≤ b.toNat ∧ b.toNat ≤ 57) : ¬ ∃ m x u, KeyOf key m x u := by
  rintro ⟨m, x, u, ds, ⟨e, hl⟩, hx, hk⟩
  have h1 : 1 ≤ ds.length := by rw [e]; exact dec_len m
  have hh : (decDigits m).head? = some 48 := by
    rw [hk, List.getElem?_append_left (by omega), e] at h0
    rw [List.head?_eq_getElem?]
    exact h0
  have hm := dec_head m hh
  subst hm
  rw [Go.Lib.decDigits_one (by omega)] at e
  have h47 : key[1]? = some 47 := by
    rw [hk, e]
    rfl
  have : ∃ b, key[1]? = some b ∧ 48 ≤ b.toNat ∧ b.toNat ≤ 57 := by
    by_cases h2 : i = 1
    · subst h2; exact ⟨b, hb, hd⟩
    · exact h.dig 1 (by omega)
  obtain ⟨c, hc, hd'⟩ := this
  rw [h47] at hc
  injection hc with hc
  subst hc
  exact absurd hd'.1 (by decide)
theorem read_step {key : List UInt8} {i n d : Nat} {b : UInt8} (h : ReadRel key i n) (hb : key[i]? = some b) (hd : b.toNat = 48 + d) (hd9 : d < 10) (hz : i = 0 ∨ key[0]? ≠ some 48) (hno : ∀ k u, i + 2 ≤ k → ¬ Hit key i k u) : ReadRel key (i + 1) (n * 10 + d) := by
  refine ⟨num_step h.num hb hd hd9 (by rw [List.head?_eq_getElem?]; exact hz), fun j hj => ?_, fun j k u hj => ?_⟩
  · by_cases e : j = i
    · subst e; exact ⟨b, hb, by omega⟩
    · exact h.dig j (by omega)
  · by_cases e : j = i
    · subst e; exact hno k u
    · exact h.no j k u (by omega)
/-- its digits, at a hit -/
theorem read_here {key : List UInt8} {i n d : Nat} {b : UInt8} (h : ReadRel key i n) (hb : key[i]? = some b) (hd : b.toNat = 48 + d) (hd9 : d < 10) (hz : i = 0 ∨ key[0]? ≠ some 48) : key.take (i + 1) = decDigits (n * 10 + d) := by
  rcases num_step h.num hb hd hd9 (by rw [List.head?_eq_getElem?]; exact hz) with ⟨h1, _⟩ | ⟨_, h2⟩
  · omega
  · exact h2

/-! ### What is wrong with a definition -/
structure Stp where
  nm : ByteArray
  pt : ByteArray
  tm : Int
  t : P
  u : P
  pr : Int
def eqP (a b : P) : Bool := decide (a.r = b.r) && decide (a.b = b.b) && decide (a.f = b.f) && decide (a.c = b.c)
def eqS (a b : Stp) : Bool := decide (a.nm = b.nm) && decide (a.pt = b.pt) && decide (a.tm = b.tm) && eqP a.t b.t && eqP a.u b.u && decide (a.pr = b.pr)
theorem eqP_iff {a b : P} : eqP a b = true ↔ a = b := by
  obtain ⟨a1, a2, a3, a4⟩ := a
  obtain ⟨b1, b2, b3, b4⟩ := b
  simp [eqP, and_assoc]
theorem eqS_iff {a b : Stp} : eqS a b = true ↔ a = b := by
  obtain ⟨a1, a2, a3, a4, a5, a6⟩ := a
  obtain ⟨b1, b2, b3, b4, b5, b6⟩ := b
  simp [eqS, eqP_iff, and_assoc]
def stepE (ss : List Stp) (i : Nat) (s : Stp) : Int :=
  if nameB s.nm.data.toList = false ∨ nameB s.pt.data.toList = false then 10
  else if (ss.take i).any (fun x => decide (x.nm = s.nm)) = true then 6
  else if s.tm < 1 ∨ 1099511627776 < s.tm ∨ s.pr < 0 ∨ 255 < s.pr then 1
  else if ¬ s.t.Good ∨ ¬ s.u.Good then 3
  else 0
/-- the first step at fault, and its error -/
def FaultIs (ss : List Stp) (k e : Int) : Prop :=
  (∃ i s, ss[i]? = some s ∧ e = stepE ss i s ∧ stepE ss i s ≠ 0 ∧ k = (i : Int) ∧ ∀ j t, j < i → ss[j]? = some t → stepE ss j t = 0) ∨
    (k = -1 ∧ e = 0 ∧ ∀ j t, ss[j]? = some t → stepE ss j t = 0)
theorem fault_uniq {ss : List Stp} {k e k' e' : Int} (h : FaultIs ss k e) (h' : FaultIs ss k' e') : k = k' ∧ e = e' := by
  rcases h with ⟨i, s, h1, rfl, h3, rfl, h5⟩ | ⟨rfl, rfl, h3⟩ <;> rcases h' with ⟨i', s', g1, rfl, g3, rfl, g5⟩ | ⟨rfl, rfl, g3⟩
  · have : i = i' := by
      rcases Nat.lt_trichotomy i i' with h | h | h
      · exact absurd (g5 i s h h1) h3
      · exact h
      · exact absurd (h5 i' s' h g1) g3
    subst this
    rw [h1] at g1
    injection g1 with g1
    subst g1
    exact ⟨rfl, rfl⟩
  · exact absurd (g3 i s h1) h3
  · exact absurd (h3 i' s' g1) g3
  · exact ⟨rfl, rfl⟩
def ChkIs (nm : ByteArray) (dl : Int) (ss : List Stp) (k e : Int) : Prop :=
  if nameB nm.data.toList = false then k = -1 ∧ e = 10
  else if dl < 0 ∨ 1099511627776 < dl then k = -1 ∧ e = 1
  else if ss.length = 0 then k = -1 ∧ e = 2
  else if 32 < ss.length then k = -1 ∧ e = 4
  else FaultIs ss k e
theorem chk_uniq {nm : ByteArray} {dl k e k' e' : Int} {ss : List Stp} (h : ChkIs nm dl ss k e) (h' : ChkIs nm dl ss k' e') : k = k' ∧ e = e' := by
  unfold ChkIs at h h'
  split at h
  · rw [if_pos ‹_›] at h'; exact ⟨h.1.trans h'.1.symm, h.2.trans h'.2.symm⟩
  · rw [if_neg ‹_›] at h'
    split at h
    · rw [if_pos ‹_›] at h'; exact ⟨h.1.trans h'.1.symm, h.2.trans h'.2.symm⟩
    · rw [if_neg ‹_›] at h'
      split at h
      · rw [if_pos ‹_›] at h'; exact ⟨h.1.trans h'.1.symm, h.2.trans h'.2.symm⟩
      · rw [if_neg ‹_›] at h'
        split at h
        · rw [if_pos ‹_›] at h'; exact ⟨h.1.trans h'.1.symm, h.2.trans h'.2.symm⟩
        · rw [if_neg ‹_›] at h'
          exact fault_uniq h h'
/-- the names of a right definition's steps are names -/
theorem chk_name {nm : ByteArray} {dl k : Int} {ss : List Stp} (h : ChkIs nm dl ss k 0) {i : Nat} {s : Stp} (hs : ss[i]? = some s) : nameB s.nm.data.toList = true := by
  unfold ChkIs at h
  split at h
  · exact absurd h.2 (by decide)
  · split at h
    · exact absurd h.2 (by decide)
    · split at h
      · exact absurd h.2 (by decide)
      · split at h
        · exact absurd h.2 (by decide)
        · rcases h with ⟨j, t, _, h2, h3, _⟩ | ⟨_, _, h3⟩
          · exact absurd h2.symm h3
          · have := h3 i s hs
            unfold stepE at this
            cases hn : nameB s.nm.data.toList with
            | true => rfl
            | false =>
              rw [if_pos (.inl hn)] at this
              exact absurd this (by decide)
/-! ### Parties: each once, in the order in which they come first -/
def fresh (l : List ByteArray) (x : ByteArray) : List ByteArray := if l.any (fun y => decide (y = x)) = true then l else l ++ [x]
def parties (l : List ByteArray) : List ByteArray := l.foldl fresh []
theorem any_mem {l : List ByteArray} {x : ByteArray} : l.any (fun y => decide (y = x)) = true ↔ x ∈ l := by
  rw [List.any_eq_true]
  constructor
  · rintro ⟨y, h1, h2⟩
    exact of_decide_eq_true h2 ▸ h1
  · exact fun h => ⟨x, h, decide_eq_true rfl⟩
theorem fresh_mem (l : List ByteArray) (x y : ByteArray) : y ∈ fresh l x ↔ y ∈ l ∨ y = x := by
  unfold fresh
  split
  · next h =>
    exact ⟨.inl, fun h' => h'.elim id fun e => e ▸ any_mem.1 h⟩
  · rw [List.mem_append, List.mem_singleton]
theorem parties_snoc (l : List ByteArray) (x : ByteArray) : parties (l ++ [x]) = fresh (parties l) x := by
  unfold parties
  rw [List.foldl_append]
  rfl
theorem fold_mem (l : List ByteArray) : ∀ (a : List ByteArray) (x : ByteArray), x ∈ l.foldl fresh a ↔ x ∈ a ∨ x ∈ l := by
  induction l with
  | nil => intro a x; simp
  | cons y l ih =>
    intro a x
    rw [List.foldl_cons, ih, fresh_mem, List.mem_cons, or_assoc]
theorem parties_mem (l : List ByteArray) (x : ByteArray) : x ∈ parties l ↔ x ∈ l := by
  unfold parties
  rw [fold_mem]
  simp
theorem fold_len (l : List ByteArray) : ∀ a : List ByteArray, (l.foldl fresh a).length ≤ a.length + l.length := by
  induction l with
  | nil => intro a; simp
  | cons y l ih =>
    intro a
    have := ih (fresh a y)
    have h : (fresh a y).length ≤ a.length + 1 := by
      unfold fresh
      split
      · omega
      · simp
    rw [List.foldl_cons, List.length_cons]
    omega
theorem parties_len (l : List ByteArray) : (parties l).length ≤ l.length := by
  have := fold_len l []
  simpa [parties] using this
/-- the ends -/
def endT (dl start : Int) : Int := if dl = 0 then 1099511627777 else addT start dl
theorem end_mono {dl a b : Int} (h : a ≤ b) : endT dl a ≤ endT dl b := by
  unfold endT
  split
  · exact Int.le_refl _
  · exact addT_mono _ h
end Go.Proofs.YteejocnogpaifaaGreatDoor.Df
/-
  The memory of definitions: a step is twelve cells, a definition three, the last of which is a slice of steps; an argument by value, opened; steps that are compared.
  Conditions: as each theorem names them.
-/
namespace Go.Proofs.YteejocnogpaifaaGreatDoor.Df
open Go.ChangeShapes Go.WideShapes Go.ChangeAt Go.RowKit
open Go.Proofs.YteejocnogpaifaaGreatDoor.Bo (P ret_int ret_bool)
open Go.Proofs.YteejocnogpaifaaGreatDoor.El

def Stp.cells (s : Stp) : List Value := [.string s.nm, .string s.pt, .int .i64 s.tm, .int .i64 s.t.r, .int .i64 s.t.b, .int .i64 s.t.f, .int .i64 s.t.c, .int .i64 s.u.r, .int .i64 s.u.b, .int .i64 s.u.f, .int .i64 s.u.c, .int .i64 s.pr]
def Stp.arr (s : Stp) : Array Value := #[.string s.nm, .string s.pt, .int .i64 s.tm, .int .i64 s.t.r, .int .i64 s.t.b, .int .i64 s.t.f, .int .i64 s.t.c, .int .i64 s.u.r, .int .i64 s.u.b, .int .i64 s.u.f, .int .i64 s.u.c, .int .i64 s.pr]
/-- the slice at A has the steps ss -/
abbrev Steps (w : World) (B : Nat) (A : Option Addr) (ss : List Stp) : Prop := Els Stp.cells 12 w B A ss
/-- texts of a size that a text may have -/
def Stp.Fits (s : Stp) : Prop := s.nm.size ≤ 9223372036854775807 ∧ s.pt.size ≤ 9223372036854775807
theorem own : ownKnob Tryz.prog.godebug = none := by kernel_rfl
theorem laidOut : laidOutB Tryz.prog = true := by kernel_rfl
theorem cellsI : Tryz.prog.cellsOf 3 = 1 := by kernel_rfl
theorem cellsStr : Tryz.prog.cellsOf 9 = 1 := by kernel_rfl
theorem cellsP : Tryz.prog.cellsOf 52 = 4 := by kernel_rfl
theorem cellsSl : Tryz.prog.cellsOf 31 = 1 := by kernel_rfl
theorem cellsD : Tryz.prog.cellsOf 33 = 3 := by kernel_rfl
set_option maxRecDepth 100000 in
theorem open_plan {H : Type} {enc : TypeId × Value → H} {W : World} {fuel : Nat} {cs : List Value} {x : DataW H × List MemPlace} (h : DataW.trod enc Tryz.prog W 0 (fun _ => true) true fuel 52 cs = some x) (hl : cs.length = 4) :
    ∃ p : P, cs = [.int .i64 p.r, .int .i64 p.b, .int .i64 p.f, .int .i64 p.c] := by
  obtain ⟨y0, y1, y2, y3, m, hx, _, hy0, hy1, hy2, hy3⟩ := Joins.trod_struct4 Tryz.underlying52 h
  obtain ⟨x0, e0, _, _⟩ := DataW.trod_int Tryz.underlying3 hy0
  obtain ⟨x1, e1, _, _⟩ := DataW.trod_int Tryz.underlying3 hy1
  obtain ⟨x2, e2, _, _⟩ := DataW.trod_int Tryz.underlying3 hy2
  obtain ⟨x3, e3, _, _⟩ := DataW.trod_int Tryz.underlying3 hy3
  match cs, hl with
  | [c0, c1, c2, c3], _ =>
    simp [cellsI] at e0 e1 e2 e3
    subst e0 e1 e2 e3
    exact ⟨⟨x0, x1, x2, x3⟩, rfl⟩
set_option maxRecDepth 100000 in
theorem open_step {H : Type} {enc : TypeId × Value → H} {W : World} (fuel : Nat) (cs : List Value) (x : DataW H × List MemPlace) (h : DataW.trod enc Tryz.prog W 0 (fun _ => true) true fuel 54 cs = some x) (hl : cs.length = 12) :
    ∃ s : Stp, s.Fits ∧ cs = s.cells := by
  obtain ⟨ys, n', _, _, _, hyl, hfld⟩ := DataW.trod_struct Tryz.underlying54 h
  simp only [List.size_toArray, List.length_cons, List.length_nil, Nat.reduceAdd] at hyl
  have e0 : DataW.trod enc Tryz.prog W 0 (fun _ => true) true n' 9 ((cs.drop 0).take (Tryz.prog.cellsOf 9)) = ys[0]? := hfld 0 _ rfl
  have e1 : DataW.trod enc Tryz.prog W 0 (fun _ => true) true n' 9 ((cs.drop 1).take (Tryz.prog.cellsOf 9)) = ys[1]? := hfld 1 _ rfl
  have e2 : DataW.trod enc Tryz.prog W 0 (fun _ => true) true n' 3 ((cs.drop 2).take (Tryz.prog.cellsOf 3)) = ys[2]? := hfld 2 _ rfl
  have e3 : DataW.trod enc Tryz.prog W 0 (fun _ => true) true n' 52 ((cs.drop 3).take (Tryz.prog.cellsOf 52)) = ys[3]? := hfld 3 _ rfl
  have e4 : DataW.trod enc Tryz.prog W 0 (fun _ => true) true n' 52 ((cs.drop 7).take (Tryz.prog.cellsOf 52)) = ys[4]? := hfld 4 _ rfl
  have e5 : DataW.trod enc Tryz.prog W 0 (fun _ => true) true n' 3 ((cs.drop 11).take (Tryz.prog.cellsOf 3)) = ys[5]? := hfld 5 _ rfl
  match cs, hl, ys, hyl with
  | [c0, c1, c2, c3, c4, c5, c6, c7, c8, c9, c10, c11], _, [y0, y1, y2, y3, y4, y5], _ =>
    simp only [cellsI, cellsStr, cellsP, List.drop_zero, List.drop_succ_cons, List.take_succ_cons, List.take_zero, List.getElem?_cons_zero, List.getElem?_cons_succ] at e0 e1 e2 e3 e4 e5
    obtain ⟨x0, q0, _, w0⟩ := DataW.trod_string Tryz.underlying9 e0
    obtain ⟨x1, q1, _, w1⟩ := DataW.trod_string Tryz.underlying9 e1
    obtain ⟨x2, q2, _, _⟩ := DataW.trod_int Tryz.underlying3 e2
    obtain ⟨p3, q3⟩ := open_plan e3 rfl
    obtain ⟨p4, q4⟩ := open_plan e4 rfl
    obtain ⟨x5, q5, _, _⟩ := DataW.trod_int Tryz.underlying3 e5
    simp only [List.cons.injEq, and_true] at q0 q1 q2 q3 q4 q5
    obtain ⟨rfl, rfl, rfl, rfl⟩ := q3
    obtain ⟨rfl, rfl, rfl, rfl⟩ := q4
    subst q0 q1 q2 q5
    exact ⟨⟨x0, x1, x2, p3, p4, x5⟩, ⟨by unfold maxLen at w0; exact by omega, by unfold maxLen at w1; exact by omega⟩, rfl⟩
set_option maxRecDepth 100000 in
/-- an argument: a definition by value -/
theorem arg_def {H : Type} {enc : TypeId × Value → H} {W : World} {r : Reach} {base : Nat} {v : Value} {d : DataW H} {pl : List MemPlace} (hv : Value.okWide Tryz.prog W r base 33 v)
    (h : DataW.Trod enc Tryz.prog W 0 (fun _ => true) true 33 v d pl) :
    ∃ (nm : ByteArray) (dl : Int) (A : Option Addr) (c : Nat) (ss : List Stp), v = .agg #[.string nm, .int .i64 dl, .slice A ss.length c] ∧ nm.size ≤ 9223372036854775807 ∧ ss.length ≤ 9223372036854775807 ∧ ss.length ≤ c ∧ (∀ s ∈ ss, s.Fits) ∧ Steps W W.heap.size A ss ∧ (A = none → ss = [] ∧ c = 0) := by
  obtain ⟨cs, rfl, hsz⟩ := okWide_struct Tryz.underlying33 hv
  rw [cellsD] at hsz
  obtain ⟨l⟩ := cs
  match l, hsz with
  | [c0, c1, c2], _ =>
  obtain ⟨fuel, hf⟩ := h
  obtain ⟨y0, y1, y2, m, hx, _, hy0, hy1, hy2⟩ := Deep.trod_struct3 Tryz.underlying33 hf
  obtain ⟨x0, e0, _, w0⟩ := DataW.trod_string Tryz.underlying9 hy0
  obtain ⟨x1, e1, _, w1⟩ := DataW.trod_int Tryz.underlying3 hy1
  obtain ⟨a0, len, cap, ss, e2, hn, hc, hm, hg, hE, hnil⟩ := els_of (⟨⟨#[]⟩, ⟨#[]⟩, 0, ⟨0, 0, 0, 0⟩, ⟨0, 0, 0, 0⟩, 0⟩ : Stp) Stp.cells Stp.Fits 12 (by omega) Tryz.underlying31 (by kernel_rfl) open_step hy2
  simp [Value.cells, cellsI, cellsStr, cellsSl] at e0 e1 e2
  subst e0 e1 e2 hn
  exact ⟨x0, x1, a0, cap, ss, rfl, by unfold maxLen at w0; exact by omega, hm, hc, hg, hE, fun h => ⟨List.eq_nil_of_length_eq_zero (hnil h).1, (hnil h).2⟩⟩

/-! ### Steps compared -/
theorem fieldsP : Tryz.prog.underlying 52 = some (.struct (Tryz.prog.fieldsOf 52)) := by kernel_rfl
theorem bytes_beq (a b : ByteArray) : (a.toList == b.toList) = decide (a = b) := by
  rw [ByteArray.toList_eq, ByteArray.toList_eq, Bool.eq_iff_iff, beq_iff_eq, decide_eq_true_eq]
  constructor
  · intro h
    exact ByteArray.ext (Array.toList_inj.1 h)
  · rintro rfl
    rfl
end Go.Proofs.YteejocnogpaifaaGreatDoor.Df
/-
  Steps compared by == and !=, as the model does it, field by field.
  Conditions: none.
-/
namespace Go.Proofs.YteejocnogpaifaaGreatDoor.Df
open Go.RowKit
open Go.Proofs.YteejocnogpaifaaGreatDoor.Bo (P)

set_option maxRecDepth 100000 in
set_option maxHeartbeats 1000000 in
theorem eq_plan (d : Nat) (x y : P) (w : World) : (Op.equalIn (d + 2) 52 (.agg #[.int .i64 x.r, .int .i64 x.b, .int .i64 x.f, .int .i64 x.c]) (.agg #[.int .i64 y.r, .int .i64 y.b, .int .i64 y.f, .int .i64 y.c])).run Tryz.prog w = .ok (eqP x y) w := by
  rw [run_equalIn_struct w (d + 1) 52 _ _ (by kernel_rfl) (by kernel_rfl)]
  simp [Program.fieldsOf, Tryz.underlying52, Op.eqFields, go_sem]
  unfold eqP
  repeat' split
  all_goals simp_all
set_option maxRecDepth 100000 in
set_option maxHeartbeats 4000000 in
theorem neq_step (x y : Stp) (w : World) : (binOp .neq 54 (.agg x.arr) (.agg y.arr)).run Tryz.prog w = .ok (.bool (!eqS x y)) w := by
  rw [run_neq_struct, run_equalIn_struct w 9999 54 _ _ (by kernel_rfl) (by kernel_rfl)]
  unfold Stp.arr
  simp [Program.fieldsOf, Tryz.underlying54, Op.eqFields, go_sem, eq_plan]
  have hb : ∀ a b : ByteArray, (a.toList = b.toList) = (a = b) := fun a b => propext (by
    have := bytes_beq a b
    rw [Bool.eq_iff_iff, beq_iff_eq, decide_eq_true_eq] at this
    exact this)
  simp only [hb]
  unfold eqS
  repeat' split
  all_goals simp_all
theorem guard_step (op : BinOp) (a b : Operand) (xs ys : Array Value) (w : World) : (eqGuard op 54 a b (.agg xs) (.agg ys)).run Tryz.prog w = .ok () w := run_eqGuard_agg w op 54 a b xs ys (by kernel_rfl)
instance : DecidableEq Stp := fun _ _ => decidable_of_iff _ eqS_iff
theorem eqS_dec (a b : Stp) : eqS a b = decide (a = b) := by rw [Bool.eq_iff_iff, eqS_iff, decide_eq_true_eq]
end Go.Proofs.YteejocnogpaifaaGreatDoor.Df
/-
  The cells of a definition that a call has laid; what End answers: the tick from which on a saga doesn't go forward; the document's own End.
  Conditions: none.
-/
namespace Go.Proofs.YteejocnogpaifaaGreatDoor.Df
open Go.RowKit
open Go.Proofs.YteejocnogpaifaaGreatDoor.El
open Go.Proofs.YteejocnogpaifaaGreatDoor.Bo (P Made ret_int ret_bool)

def dcells (nm : ByteArray) (dl : Int) (A : Option Addr) (n c : Nat) : Array Value := #[.string nm, .int .i64 dl, .slice A n c]
theorem len_is (s : ByteArray) : s.data.toList.length = s.size := Array.length_toList
/-- its own blocks -/
theorem two_box {w w' : World} {cs cs' : Array Value} {t : TypeId} (h : Made ((w.alloc (.cells cs t)).alloc (.cells cs' t)) w') : Box w' w.heap.size t cs ∧ Box w' (w.heap.size + 1) t cs' := by
  refine ⟨Bo.Box.made ((Box.new w t cs).alloc _) h, Bo.Box.made ?_ h⟩
  have := Box.new (w.alloc (.cells cs t)) t cs'
  simpa using this
def zstep : Value := .agg #[.string ⟨#[]⟩, .string ⟨#[]⟩, .int .i64 0, .int .i64 0, .int .i64 0, .int .i64 0, .int .i64 0, .int .i64 0, .int .i64 0, .int .i64 0, .int .i64 0, .int .i64 0]
theorem infoStep : (Tryz.prog.info? 54).map (fun i => (i.zero, i.size, i.bytes)) = some (some zstep, 12, 112) := by kernel_rfl
theorem info_is : ∃ i : TypeInfo, Tryz.prog.info? 54 = some i ∧ i.zero = some zstep ∧ i.size = 12 ∧ i.bytes = 112 := by
  have h := infoStep
  cases hi : Tryz.prog.info? 54 with
  | none => rw [hi] at h; cases h
  | some i =>
    rw [hi] at h
    simp only [Option.map_some, Option.some.injEq, Prod.mk.injEq] at h
    exact ⟨i, rfl, h.1, h.2.1, h.2.2⟩
theorem Dc0 {w : World} {g n c : Nat} {nm : ByteArray} {dl : Int} {A : Option Addr} (h : Box w g 33 (dcells nm dl A n c)) : w.cell? ⟨g, 0, none⟩ = some (.string nm) := h.cell 0
theorem Dc1 {w : World} {g n c : Nat} {nm : ByteArray} {dl : Int} {A : Option Addr} (h : Box w g 33 (dcells nm dl A n c)) : w.cell? ⟨g, 1, none⟩ = some (.int .i64 dl) := h.cell 1
theorem Dc2 {w : World} {g n c : Nat} {nm : ByteArray} {dl : Int} {A : Option Addr} (h : Box w g 33 (dcells nm dl A n c)) : w.cell? ⟨g, 2, none⟩ = some (.slice A n c) := h.cell 2
theorem sizeD : (Tryz.prog.info? 33).map (·.size) = some 3 := by kernel_rfl
theorem size_def (nm : ByteArray) (dl : Int) (A : Option Addr) (n c : Nat) : (Tryz.prog.info? 33).map (·.size) = some (dcells nm dl A n c).size := sizeD
theorem one_def (nm : ByteArray) (dl : Int) (A : Option Addr) (n c : Nat) : (dcells nm dl A n c).all (·.oneCell') = true := by simp [dcells, Value.oneCell']
/-- two blocks that a call has laid, behind a further call -/
theorem two_below {w w' : World} {cs cs' : Array Value} {t : TypeId} (h : Below ((w.alloc (.cells cs t)).alloc (.cells cs' t)).heap.size ((w.alloc (.cells cs t)).alloc (.cells cs' t)) w') : Box w' w.heap.size t cs ∧ Box w' (w.heap.size + 1) t cs' := by
  obtain ⟨h1, h2⟩ := two_box (w := w) (cs := cs) (cs' := cs') (t := t) (Made.refl _)
  exact ⟨h1.below h h1.lt, h2.below h h2.lt⟩
/-! ### End -/
theorem rof_any (n : Int) (w : World) :
    Calls Tryz.prog 91 #[.int .i64 n] w fun e w' => e = .returned (.int .i64 (ofT n)) ∧ w = w' := by
  go_enter Tryz.func91, Tryz.ntmps91
  go_wp2
  all_goals
    go_ret
    refine ⟨ret_int ?_, rfl⟩
    unfold ofT
    repeat' split
    all_goals omega
theorem radd_any (a b : Int) (w : World) :
    Calls Tryz.prog 56 #[.int .i64 a, .int .i64 b] w fun e w' => e = .returned (.int .i64 (addT a b)) ∧ w = w' := by
  have h1 := ofT_lo a; have h2 := ofT_hi a; have h3 := ofT_lo b; have h4 := ofT_hi b
  go_enter Tryz.func56, Tryz.ntmps56
  go_wp2_with (go_at_call 91; refine (rof_any _ _).mono ?_; rintro e w' ⟨rfl, rfl⟩)
  go_ret
  exact ⟨rfl, rfl⟩
set_option maxHeartbeats 1000000 in
theorem end_any (nm : ByteArray) (dl : Int) (A : Option Addr) (n c : Nat) (start : Int) (w : World) :
    Calls Tryz.prog 111 #[.agg #[.string nm, .int .i64 dl, .slice A n c], .int .i64 start] w fun e w' => e = .returned (.int .i64 (endT dl start)) ∧ Made w w' := by
  by_cases h : dl = 0
  · subst h
    go_enter Tryz.func111, Tryz.ntmps111
    go_wp2
    go_ret
    exact ⟨rfl, Made.alloc _ _⟩
  · have hb : (dl == 0) = false := by simpa using h
    have HE : Hid (endT dl start = addT start dl) := Lib.hid (by unfold endT; rw [if_neg h])
    clear h
    go_enter Tryz.func111, Tryz.ntmps111
    go_wp2_with (go_at_call 105; refine (Bo.tadd_any _ _ _).mono ?_; rintro e w' ⟨rfl, rfl⟩)
    go_ret
    exact ⟨ret_int HE.out.symm, Made.alloc _ _⟩
set_option maxHeartbeats 1000000 in
theorem rend_any (nm : ByteArray) (dl : Int) (A : Option Addr) (n c : Nat) (start : Int) (w : World) :
    Calls Tryz.prog 55 #[.agg #[.string nm, .int .i64 dl, .slice A n c], .int .i64 start] w fun e w' => e = .returned (.int .i64 (endT dl start)) ∧ Made w w' := by
  by_cases h : dl = 0
  · subst h
    go_enter Tryz.func55, Tryz.ntmps55
    go_wp2
    go_ret
    exact ⟨rfl, Made.alloc _ _⟩
  · have hb : (dl == 0) = false := by simpa using h
    have HE : Hid (endT dl start = addT start dl) := Lib.hid (by unfold endT; rw [if_neg h])
    clear h
    go_enter Tryz.func55, Tryz.ntmps55
    go_wp2_with (go_at_call 56; refine (radd_any _ _ _).mono ?_; rintro e w' ⟨rfl, rfl⟩)
    go_ret
    exact ⟨ret_int HE.out.symm, Made.alloc _ _⟩
end Go.Proofs.YteejocnogpaifaaGreatDoor.Df
/-
  What the statements' own Small answers: are a definition's steps few, and its names short?
  Conditions: the steps lie in memory.
-/
namespace Go.Proofs.YteejocnogpaifaaGreatDoor.Df
open Go.RowKit
open Go.Proofs.YteejocnogpaifaaGreatDoor.El
open Go.Proofs.YteejocnogpaifaaGreatDoor.Bo (P Made ret_int ret_bool)

def okS (s : Stp) : Bool := decide (s.nm.size ≤ 100) && decide (s.pt.size ≤ 100)
def smallI (nm : ByteArray) (ss : List Stp) : Int := if 40 < ss.length ∨ 100 < nm.size then 1 else if ss.all okS = true then 0 else 2
theorem small_yes {nm : ByteArray} {ss : List Stp} (h : smallI nm ss = 0) : ss.length ≤ 40 ∧ nm.size ≤ 100 ∧ ∀ s ∈ ss, s.nm.size ≤ 100 ∧ s.pt.size ≤ 100 := by
  unfold smallI at h
  split at h
  · cases h
  · split at h
    · next h1 h2 =>
      refine ⟨by omega, by omega, fun s hs => ?_⟩
      have := List.all_eq_true.1 h2 s hs
      unfold okS at this
      simpa using this
    · cases h
theorem small_bad {nm : ByteArray} {ss : List Stp} (h : ¬ (40 < ss.length ∨ 100 < nm.size)) {k : Nat} {s : Stp} (hs : ss[k]? = some s) (hb : okS s = false) : smallI nm ss = 2 := by
  unfold smallI
  rw [if_neg h, if_neg]
  intro h2
  have := List.all_eq_true.1 h2 s (List.mem_of_getElem? hs)
  rw [hb] at this
  cases this
theorem small_end {nm : ByteArray} {ss : List Stp} (h : ¬ (40 < ss.length ∨ 100 < nm.size)) (hk : ∀ i s, i < ss.length → ss[i]? = some s → okS s = true) : smallI nm ss = 0 := by
  unfold smallI
  rw [if_neg h, if_pos]
  refine List.all_eq_true.2 fun s hs => ?_
  obtain ⟨i, hi⟩ := List.mem_iff_getElem?.1 hs
  exact hk i s (at_lt hi) hi
set_option maxHeartbeats 2000000 in
set_option maxRecDepth 100000 in
theorem small_any (nm : ByteArray) (dl : Int) (A : Option Addr) (c : Nat) (ss : List Stp) (n : Nat) (w : World) (hn : n = ss.length) (hb : n ≤ 9223372036854775807) (hnm : nm.size ≤ 9223372036854775807) (hfit : ∀ s ∈ ss, s.Fits) (hS : Steps w w.heap.size A ss) :
    Calls Tryz.prog 14 #[.agg #[.string nm, .int .i64 dl, .slice A n c]] w fun e w' => e = .returned (.int .i64 (smallI nm ss)) ∧ Made w w' := by
  by_cases h1 : 40 < n
  · have HR : Hid (smallI nm ss = 1) := Lib.hid (by unfold smallI; rw [if_pos (.inl (by omega))])
    clear hS hn hfit
    go_enter Tryz.func14, Tryz.ntmps14
    go_wp2
    go_ret
    exact ⟨ret_int HR.out.symm, Made.alloc _ _⟩
  by_cases h2 : 100 < nm.size
  · have HR : Hid (smallI nm ss = 1) := Lib.hid (by unfold smallI; rw [if_pos (.inr h2)])
    clear hS hn hfit
    go_enter Tryz.func14, Tryz.ntmps14
    go_wp2
    go_ret
    exact ⟨ret_int HR.out.symm, Made.alloc _ _⟩
  have HNo : Hid (¬ (40 < ss.length ∨ 100 < nm.size)) := Lib.hid (by omega)
  have HS := Lib.hid hS
  have HN := Lib.hid hn
  have HF := Lib.hid hfit
  clear hS hn hfit
  go_enter Tryz.func14, Tryz.ntmps14
  go_wp2
  have HM := Lib.hid (Made.alloc w (.cells #[.string nm, .int .i64 dl, .slice A n c] 33))
  have HB := Lib.hid (Box.new w 33 #[.string nm, .int .i64 dl, .slice A n c])
  generalize w.alloc (.cells #[.string nm, .int .i64 dl, .slice A n c] 33) = W0 at *
  have e2 : W0.cell? ⟨w.heap.size, 2, none⟩ = some (.slice A n c) := HB.out.cell 2
  go_loopw [3] (fun vi wr => ∃ k : Nat, vi = .int .i64 (k : Int) ∧ k ≤ n ∧ wr = W0 ∧ Hid (∀ i s, i < k → ss[i]? = some s → okS s = true)) (fun vi _ => n - (intOf vi).toNat)
  case atStart => exact ⟨0, rfl, Nat.zero_le _, rfl, Lib.hid fun i s hi => absurd hi (by omega)⟩
  case round =>
    obtain ⟨k, rfl, hk, rfl, HI⟩ := hrel
    by_cases hkn : k < n
    · obtain ⟨x, hx⟩ : ∃ x, ss[k]? = some x := ⟨_, List.getElem?_eq_getElem (by have := HN.out; omega)⟩
      obtain ⟨b, o, rfl, hbl⟩ := HS.out.at_ hx
      have HS0 := Lib.hid (HS.out.below HM.out.below)
      have c0 : wr.cell? ⟨b, o + k * 12, none⟩ = some (.string x.nm) := HS0.out.get hx 0 rfl
      have c1 : wr.cell? ⟨b, o + k * 12 + 1, none⟩ = some (.string x.pt) := HS0.out.get hx 1 rfl
      obtain ⟨hf1, hf2⟩ := HF.out x (List.mem_of_getElem? hx)
      have HX := Lib.hid hx
      clear hx
      by_cases hq1 : 100 < x.nm.size
      · have HR : Hid (smallI nm ss = 2) := Lib.hid (small_bad HNo.out HX.out (by unfold okS; rw [decide_eq_false (by omega)]; rfl))
        go_wp2
        go_ret
        exact ⟨ret_int HR.out.symm, HM.out⟩
      · by_cases hq2 : 100 < x.pt.size
        · have HR : Hid (smallI nm ss = 2) := Lib.hid (small_bad HNo.out HX.out (by unfold okS; rw [decide_eq_false (p := x.pt.size ≤ 100) (by omega)]; simp))
          go_wp2
          go_ret
          exact ⟨ret_int HR.out.symm, HM.out⟩
        · have HNx : Hid (∀ i s, i < k + 1 → ss[i]? = some s → okS s = true) := Lib.hid fun i s hi hs => by
            by_cases e : i = k
            · subst e
              rw [HX.out] at hs
              injection hs with hs
              subst hs
              unfold okS
              rw [decide_eq_true (by omega), decide_eq_true (by omega)]
              rfl
            · exact HI.out i s (by omega) hs
          go_wp2
          go_roundw
          case rel => exact ⟨k + 1, by go_num, by omega, trivial, HNx⟩
          case measure => simp [intOf]; omega
    · have HR : Hid (smallI nm ss = 0) := Lib.hid (small_end HNo.out fun i s hi hs => HI.out i s (by have := HN.out; omega) hs)
      go_wp2
      go_ret
      exact ⟨ret_int HR.out.symm, HM.out⟩
end Go.Proofs.YteejocnogpaifaaGreatDoor.Df
/-
  What Key answers: a command's key.
  Conditions: the steps lie in memory; the library's table of powers of ten holds what its text lays; names are of moderate length; the saga's number fits Go's int.
-/
namespace Go.Proofs.YteejocnogpaifaaGreatDoor.Df
open Go.RowKit
open Go.Proofs.YteejocnogpaifaaGreatDoor.El
open Go.Lib (decDigits)
open Go.Proofs.YteejocnogpaifaaGreatDoor.Bo (P Made ret_int ret_bool)

abbrev Tab (w : World) : Prop := Lib.TabIs Tryz.prog w "internal/strconv.uint64pow10" .u64 Lib.pow10Tab
theorem tab_below {w w' : World} (h : Tab w) (hb : Below w.heap.size w w') : Tab w' := Lib.tabBelow_of_tabIs h _ hb
theorem itoa_nat {n : Int} (h : 0 ≤ n) : Lib.itoa n = decDigits n.toNat := by unfold Lib.itoa; rw [if_neg (by omega)]
theorem itoa_any (n : Int) (w : World) (hT : Tab w) (h0 : 0 ≤ n) (h1 : n ≤ 9223372036854775807) : Calls Tryz.prog 124 #[.int .i64 n] w fun e w' => e = .returned (.string ⟨(decDigits n.toNat).toArray⟩) ∧ Below w.heap.size w w' := by
  refine (Tryz.strconv_Itoa n (by omega) h1 w hT).mono ?_
  rintro e w' ⟨rfl, k, os, rfl⟩
  rw [itoa_nat h0]
  exact ⟨rfl, Lib.below_grow _ _ (Nat.le_refl _) _ _⟩
theorem dec_size (n : Nat) (h : n < 18446744073709551616) : (decDigits n).length ≤ 20 := by
  rw [Go.Lib.decDigits_length]
  exact Go.Lib.nDigits_le20 n h
/-- a command's key -/
def keyL (saga step : Int) (ss : List Stp) (u : Bool) : List UInt8 :=
  if saga < 0 ∨ step < 0 then [] else match ss[step.toNat]? with
    | none => []
    | some s => decDigits saga.toNat ++ 47 :: (s.nm.data.toList ++ 47 :: way u)
theorem keyL_neg {saga step : Int} {ss : List Stp} {u : Bool} (h : saga < 0 ∨ step < 0) : keyL saga step ss u = [] := by unfold keyL; rw [if_pos h]
theorem keyL_far {saga : Int} {k : Nat} {ss : List Stp} {u : Bool} (h : ss.length ≤ k) : keyL saga (k : Int) ss u = [] := by
  unfold keyL
  split
  · rfl
  · rw [Int.toNat_natCast, List.getElem?_eq_none h]
theorem keyL_at {saga : Int} {k : Nat} {ss : List Stp} {u : Bool} {s : Stp} (h0 : 0 ≤ saga) (h : ss[k]? = some s) : keyL saga (k : Int) ss u = decDigits saga.toNat ++ 47 :: (s.nm.data.toList ++ 47 :: way u) := by
  unfold keyL
  rw [if_neg (by omega), Int.toNat_natCast, h]
theorem join3 (a b c : List UInt8) : Lib.join [a, b, c] [47] = a ++ 47 :: (b ++ 47 :: c) := by
  rw [Lib.join_cons]
  simp [Lib.joinTail]
/-- strings.Join of three texts that a call has laid -/
theorem join_any (a b c : ByteArray) (w u : World) (B : Nat) (hb : Below B w u) (hB : B ≤ u.heap.size) (hs : a.size ≤ 1000000000 ∧ b.size ≤ 1000000000 ∧ c.size ≤ 1000000000) :
    Calls Tryz.prog 123 #[.slice (some ⟨u.heap.size, 0, none⟩) 3 3, .string ⟨#[47]⟩] (u.alloc (.cells #[.string a, .string b, .string c] 9)) fun e w' =>
      e = .returned (.string ⟨(a.data.toList ++ 47 :: (b.data.toList ++ 47 :: c.data.toList)).toArray⟩) ∧ Below B w w' := by
  have hx := Box.new u 9 #[.string a, .string b, .string c]
  have h := Tryz.strings_Join u.heap.size 0 3 [a, b, c] ⟨#[47]⟩ (u.alloc (.cells #[.string a, .string b, .string c] 9)) (fun j x hj => by
    rw [Nat.zero_add, hx.cell j]
    match j, hj with
    | 0, hj => simp at hj; subst hj; rfl
    | 1, hj => simp at hj; subst hj; rfl
    | 2, hj => simp at hj; subst hj; rfl) (by simp) (by simp) (by simp) (by
      have e : Lib.join ([a, b, c].map (·.data.toList)) (ByteArray.mk #[47]).data.toList = _ := join3 a.data.toList b.data.toList c.data.toList
      rw [e]
      simp only [List.length_append, List.length_cons, len_is]
      omega)
  have e : Lib.join ([a, b, c].map (·.data.toList)) (ByteArray.mk #[47]).data.toList = _ := join3 a.data.toList b.data.toList c.data.toList
  rw [e] at h
  refine Calls.mono h ?_
  rintro e w' ⟨rfl, hb'⟩
  exact ⟨rfl, (hb.alloc hB _).trans (hb'.mono (by simp; omega))⟩
def wayS : Bool → ByteArray
  | true => ⟨#[117, 110, 100, 111]⟩
  | false => ⟨#[100, 111]⟩
theorem wayS_is (u : Bool) : (wayS u).data.toList = way u := by cases u <;> rfl
set_option maxRecDepth 100000 in
set_option maxHeartbeats 4000000 in
theorem key_any (saga : Int) (nm : ByteArray) (dl : Int) (A : Option Addr) (c : Nat) (ss : List Stp) (n : Nat) (step : Int) (un : Bool) (w : World) (hn : n = ss.length) (hnm : ∀ s ∈ ss, s.nm.size ≤ 1000000) (hS : Steps w w.heap.size A ss) (hT : Tab w) (hg : saga ≤ 9223372036854775807) :
    Calls Tryz.prog 106 #[.int .i64 saga, .agg #[.string nm, .int .i64 dl, .slice A n c], .int .i64 step, .bool un] w fun e w' => e = .returned (.string ⟨(keyL saga step ss un).toArray⟩) ∧ Below w.heap.size w w' := by
  have hB := (Below.refl w.heap.size w).alloc (Nat.le_refl _) (.cells #[.string nm, .int .i64 dl, .slice A n c] 33)
  have HB := Lib.hid hB
  by_cases h1 : saga < 0
  · rw [keyL_neg (.inl h1)]
    clear hS hT hn hnm hB
    go_enter Tryz.func106, Tryz.ntmps106
    go_wp2
    go_ret
    exact ⟨rfl, HB.out⟩
  by_cases h2 : step < 0
  · rw [keyL_neg (.inr h2)]
    clear hS hT hn hnm hB
    go_enter Tryz.func106, Tryz.ntmps106
    go_wp2
    go_ret
    exact ⟨rfl, HB.out⟩
  obtain ⟨k, rfl⟩ : ∃ k : Nat, step = (k : Int) := ⟨step.toNat, by omega⟩
  by_cases h3 : n ≤ k
  · rw [keyL_far (by omega)]
    have h3' : (n : Int) ≤ (k : Int) := by omega
    clear hS hT hn hnm hB
    go_enter Tryz.func106, Tryz.ntmps106
    go_wp2
    go_ret
    exact ⟨rfl, HB.out⟩
  have hkn : k < n := by omega
  have h3' : ¬ (n : Int) ≤ (k : Int) := by omega
  obtain ⟨x, hx⟩ : ∃ x, ss[k]? = some x := ⟨_, List.getElem?_eq_getElem (by omega)⟩
  obtain ⟨b, o, rfl, hbl⟩ := hS.at_ hx
  have hxs := hnm x (List.mem_of_getElem? hx)
  rw [keyL_at (by omega) hx]
  have hs0 : (w.alloc (.cells #[.string nm, .int .i64 dl, .slice (some ⟨b, o, none⟩) n c] 33)).heap.size = w.heap.size + 1 := by simp
  have c2 : ∀ u, Below (w.heap.size + 1) (w.alloc (.cells #[.string nm, .int .i64 dl, .slice (some ⟨b, o, none⟩) n c] 33)) u → u.cell? ⟨w.heap.size, 2, none⟩ = some (.slice (some ⟨b, o, none⟩) n c) := fun u hu => ((Box.new w 33 _).below hu (by omega)).cell 2
  have cn : ∀ u, Below (w.heap.size + 1) (w.alloc (.cells #[.string nm, .int .i64 dl, .slice (some ⟨b, o, none⟩) n c] 33)) u → u.cell? ⟨b, o + k * 12, none⟩ = some (.string x.nm) := fun u hu => ((hS.below hB).below (hu.mono (by omega))).get hx 0 rfl
  have HI : Hid (∀ u, Below (w.heap.size + 1) (w.alloc (.cells #[.string nm, .int .i64 dl, .slice (some ⟨b, o, none⟩) n c] 33)) u → Calls Tryz.prog 124 #[.int .i64 saga] u fun e w' => e = .returned (.string ⟨(decDigits saga.toNat).toArray⟩) ∧ Below (w.heap.size + 1) (w.alloc (.cells #[.string nm, .int .i64 dl, .slice (some ⟨b, o, none⟩) n c] 33)) w') :=
    Lib.hid fun u hu => (itoa_any saga u (tab_below hT (hB.trans (hu.mono (by omega)))) (by omega) hg).mono fun e w' ⟨h1, h2⟩ => ⟨h1, hu.trans (h2.mono (by have := hu.size; omega))⟩
  have HJ : Hid (∀ u, Below (w.heap.size + 1) (w.alloc (.cells #[.string nm, .int .i64 dl, .slice (some ⟨b, o, none⟩) n c] 33)) u → Calls Tryz.prog 123 #[.slice (some ⟨u.heap.size, 0, none⟩) 3 3, .string ⟨#[47]⟩] (u.alloc (.cells #[.string ⟨(decDigits saga.toNat).toArray⟩, .string x.nm, .string (wayS un)] 9)) fun e w' =>
      e = .returned (.string ⟨(decDigits saga.toNat ++ 47 :: (x.nm.data.toList ++ 47 :: way un)).toArray⟩) ∧ Below (w.heap.size + 1) (w.alloc (.cells #[.string nm, .int .i64 dl, .slice (some ⟨b, o, none⟩) n c] 33)) w') :=
    Lib.hid fun u hu => by
      have h := join_any ⟨(decDigits saga.toNat).toArray⟩ x.nm (wayS un) _ u (w.heap.size + 1) hu (by have := hu.size; omega) ⟨by
        show (decDigits saga.toNat).toArray.size ≤ _
        rw [List.size_toArray]
        have := dec_size saga.toNat (by omega)
        omega, by omega, by cases un <;> decide⟩
      rw [wayS_is] at h
      simpa using h
  clear hS hT hn hnm hx
  cases un
  all_goals
    unfold wayS at HJ
    go_enter Tryz.func106, Tryz.ntmps106
    go_wp2
    generalize w.alloc _ = W0 at *
    go_region_held3 (fun u => Below (w.heap.size + 1) W0 u) (first | exact Below.refl _ _ | exact Below.drew (Below.refl _ _) | assumption | exact Below.alloc hw' (by have := hw'.size; omega) _)
      (first
        | (go_at_call 124; (with_reducible refine (HI.out _ ?_).mono ?_); (first | assumption | exact Below.drew (Below.refl _ _)); rintro e w' ⟨rfl, hw'⟩)
        | (go_at_call 123; (with_reducible refine (HJ.out _ ?_).mono ?_); (first | assumption | exact Below.drew (Below.refl _ _)); rintro e w2 ⟨rfl, hw2⟩))
    all_goals
      go_wp2
      go_ret
      exact ⟨rfl, HB.out.trans (hw2.mono (by omega))⟩
end Go.Proofs.YteejocnogpaifaaGreatDoor.Df
/-
  What the document's own Decimal and Key answer: the digits of a number, a command's key.
  Conditions: the steps lie in memory; names are of moderate length; the saga's number fits Go's int.
-/
namespace Go.Proofs.YteejocnogpaifaaGreatDoor.Df
open Go.RowKit
open Go.Proofs.YteejocnogpaifaaGreatDoor.El
open Go.Lib (decDigits)
open Go.Proofs.YteejocnogpaifaaGreatDoor.Bo (P Made ret_int ret_bool)

def digB (m : Nat) : UInt8 := UInt8.ofNat (48 + m % 10)
theorem digB_nat (m : Nat) : (digB m).toNat = 48 + m % 10 := dig_nat (Nat.mod_lt _ (by decide))
theorem dig_text (w : World) (m : Nat) : (convert 130 9 (.slice (some ⟨w.heap.size, 0, none⟩) 1 1)).run Tryz.prog (w.alloc (.cells #[.int .u8 (48 + (m : Int) % 10)] 5)) = .ok (.string ⟨#[digB m]⟩) (w.alloc (.cells #[.int .u8 (48 + (m : Int) % 10)] 5)) := by
  have hb : Byt (w.alloc (.cells #[.int .u8 (48 + (m : Int) % 10)] 5)) (w.alloc (.cells #[.int .u8 (48 + (m : Int) % 10)] 5)).heap.size (some ⟨w.heap.size, 0, none⟩) [digB m] := fun _ => by
    refine ⟨w.heap.size, 0, rfl, by simp, fun k hk => ?_⟩
    obtain rfl : k = 0 := by simpa using hk
    rw [Nat.zero_add, (Box.new w 5 _).cell 0]
    show some (Value.int .u8 (48 + (m : Int) % 10)) = some (.int .u8 ((digB m).toNat : Int))
    rw [digB_nat]
    congr 2
  exact hb.text _ _ _ Tryz.underlying130 Tryz.underlying5 Tryz.underlying9 1
set_option maxRecDepth 100000 in
set_option maxHeartbeats 4000000 in
theorem decimal_any (m0 : Nat) (w : World) (h1 : m0 ≤ 9223372036854775807) :
    Calls Tryz.prog 92 #[.int .i64 (m0 : Int)] w fun e w' => e = .returned (.string ⟨(decDigits m0).toArray⟩) ∧ Below w.heap.size w w' := by
  go_enter Tryz.func92, Tryz.ntmps92
  go_wp2
  go_loopw [0, 3] (fun vn vs wr => ∃ (m : Nat) (l : List UInt8), vn = .int .i64 (m : Int) ∧ vs = .string ⟨l.toArray⟩ ∧ m ≤ m0 ∧ Below w.heap.size w wr ∧ Hid (decDigits m0 = decDigits m ++ l)) (fun vn _ _ => (intOf vn).toNat)
  case atStart => exact ⟨m0, [], rfl, rfl, Nat.le_refl _, Below.refl _ _, Lib.hid (by simp)⟩
  case round =>
    obtain ⟨m, l, rfl, rfl, hm, hbw, HD⟩ := hrel
    have hcv : (convert 130 9 (.slice (some ⟨wr.heap.size, 0, none⟩) 1 1)).run Tryz.prog (wr.alloc (.cells #[.int .u8 (48 + (m : Int) % 10)] 5)) = .ok (.string ⟨#[digB m]⟩) (wr.alloc (.cells #[.int .u8 (48 + (m : Int) % 10)] 5)) := dig_text wr m
    have hl := dec_size m0 (by omega)
    rw [HD.out, List.length_append] at hl
    have hln : ¬ 9223372036854775807 < (ByteArray.mk #[digB m]).size + (ByteArray.mk l.toArray).size := by
      show ¬ 9223372036854775807 < 1 + l.toArray.size
      rw [List.size_toArray]
      omega
    have HC : Hid ((ByteArray.mk #[digB m]) ++ (ByteArray.mk l.toArray) = ⟨(digB m :: l).toArray⟩) := Lib.hid (by
      ext1
      simp [ByteArray.data_append])
    by_cases h9 : m < 10
    · have HE : Hid (decDigits m0 = digB m :: l) := Lib.hid (by
        rw [HD.out, Go.Lib.decDigits_one h9]
        show UInt8.ofNat (48 + m) :: l = UInt8.ofNat (48 + m % 10) :: l
        rw [Nat.mod_eq_of_lt h9])
      have hz : ((m : Int) / 10 == 0) = true := by simp; omega
      go_wp2
      go_ret
      refine ⟨?_, hbw.alloc hbw.size _⟩
      show Ending.returned (.string _) = _
      rw [HC.out, HE.out]
    · have HE : Hid (decDigits m0 = decDigits (m / 10) ++ digB m :: l) := Lib.hid (by
        rw [HD.out, dec_big h9, List.append_assoc]
        rfl)
      have hz : ((m : Int) / 10 == 0) = false := by simp; omega
      go_wp2
      go_roundw
      case rel => exact ⟨m / 10, digB m :: l, by rw [show ((m : Int) / 10) = ((m / 10 : Nat) : Int) by omega], by rw [HC.out], by omega, hbw.alloc hbw.size _, HE⟩
      case measure => simp only [intOf]; omega
/-! ### Key -/
theorem key_text (d nm : ByteArray) (un : Bool) : ((d ++ ⟨#[47]⟩) ++ nm) ++ (if un = true then ⟨#[47, 117, 110, 100, 111]⟩ else ⟨#[47, 100, 111]⟩) = ⟨(d.data.toList ++ 47 :: (nm.data.toList ++ 47 :: way un)).toArray⟩ := by
  cases un
  all_goals
    ext1
    simp [ByteArray.data_append, way]
set_option maxRecDepth 100000 in
set_option maxHeartbeats 4000000 in
theorem rkey_any (saga : Int) (nm : ByteArray) (dl : Int) (A : Option Addr) (c : Nat) (ss : List Stp) (n : Nat) (step : Int) (un : Bool) (w : World) (hn : n = ss.length) (hnm : ∀ s ∈ ss, s.nm.size ≤ 1000000) (hS : Steps w w.heap.size A ss) (hg : saga ≤ 9223372036854775807) :
    Calls Tryz.prog 57 #[.int .i64 saga, .agg #[.string nm, .int .i64 dl, .slice A n c], .int .i64 step, .bool un] w fun e w' => e = .returned (.string ⟨(keyL saga step ss un).toArray⟩) ∧ Below w.heap.size w w' := by
  have hB := (Below.refl w.heap.size w).alloc (Nat.le_refl _) (.cells #[.string nm, .int .i64 dl, .slice A n c] 33)
  have HB := Lib.hid hB
  by_cases h1 : saga < 0
  · rw [keyL_neg (.inl h1)]
    clear hS hn hnm hB
    go_enter Tryz.func57, Tryz.ntmps57
    go_wp2
    go_ret
    exact ⟨rfl, HB.out⟩
  by_cases h2 : step < 0
  · rw [keyL_neg (.inr h2)]
    clear hS hn hnm hB
    go_enter Tryz.func57, Tryz.ntmps57
    go_wp2
    go_ret
    exact ⟨rfl, HB.out⟩
  obtain ⟨k, rfl⟩ : ∃ k : Nat, step = (k : Int) := ⟨step.toNat, by omega⟩
  by_cases h3 : n ≤ k
  · rw [keyL_far (by omega)]
    have h3' : (n : Int) ≤ (k : Int) := by omega
    clear hS hn hnm hB
    go_enter Tryz.func57, Tryz.ntmps57
    go_wp2
    go_ret
    exact ⟨rfl, HB.out⟩
  have hkn : k < n := by omega
  have h3' : ¬ (n : Int) ≤ (k : Int) := by omega
  obtain ⟨x, hx⟩ : ∃ x, ss[k]? = some x := ⟨_, List.getElem?_eq_getElem (by omega)⟩
  obtain ⟨b, o, rfl, hbl⟩ := hS.at_ hx
  have hxs := hnm x (List.mem_of_getElem? hx)
  rw [keyL_at (by omega) hx]
  obtain ⟨m0, rfl⟩ : ∃ m0 : Nat, saga = (m0 : Int) := ⟨saga.toNat, by omega⟩
  rw [Int.toNat_natCast]
  have hs0 : (w.alloc (.cells #[.string nm, .int .i64 dl, .slice (some ⟨b, o, none⟩) n c] 33)).heap.size = w.heap.size + 1 := by simp
  have c2 : ∀ u, Below (w.heap.size + 1) (w.alloc (.cells #[.string nm, .int .i64 dl, .slice (some ⟨b, o, none⟩) n c] 33)) u → u.cell? ⟨w.heap.size, 2, none⟩ = some (.slice (some ⟨b, o, none⟩) n c) := fun u hu => ((Box.new w 33 _).below hu (by omega)).cell 2
  have cn : ∀ u, Below (w.heap.size + 1) (w.alloc (.cells #[.string nm, .int .i64 dl, .slice (some ⟨b, o, none⟩) n c] 33)) u → u.cell? ⟨b, o + k * 12, none⟩ = some (.string x.nm) := fun u hu => ((hS.below hB).below (hu.mono (by omega))).get hx 0 rfl
  obtain ⟨d, hd⟩ : ∃ d : ByteArray, d = ⟨(decDigits m0).toArray⟩ := ⟨_, rfl⟩
  have HI : Hid (∀ u, Below (w.heap.size + 1) (w.alloc (.cells #[.string nm, .int .i64 dl, .slice (some ⟨b, o, none⟩) n c] 33)) u → Calls Tryz.prog 92 #[.int .i64 (m0 : Int)] u fun e w' => e = .returned (.string d) ∧ Below (w.heap.size + 1) (w.alloc (.cells #[.string nm, .int .i64 dl, .slice (some ⟨b, o, none⟩) n c] 33)) w') :=
    Lib.hid fun u hu => (decimal_any m0 u (by omega)).mono fun e w' ⟨h1, h2⟩ => ⟨by rw [hd]; exact h1, hu.trans (h2.mono (by have := hu.size; omega))⟩
  have hds : d.size ≤ 20 := by
    have h : d.size = (decDigits m0).length := by
      rw [hd]
      show (decDigits m0).toArray.size = _
      exact List.size_toArray
    rw [h]
    exact dec_size m0 (by omega)
  have hT := key_text d x.nm un
  rw [show d.data.toList = decDigits m0 by rw [hd]] at hT
  have HT := Lib.hid hT
  have q1 : ¬ 9223372036854775807 < d.size + (ByteArray.mk #[47]).size := by show ¬ _ < d.size + 1; omega
  have q2 : ¬ 9223372036854775807 < d.size + (ByteArray.mk #[47]).size + x.nm.size := by show ¬ _ < d.size + 1 + _; omega
  have q3 : ¬ 9223372036854775807 < d.size + (ByteArray.mk #[47]).size + x.nm.size + (ByteArray.mk #[47, 117, 110, 100, 111]).size := by show ¬ _ < d.size + 1 + _ + 5; omega
  have q4 : ¬ 9223372036854775807 < d.size + (ByteArray.mk #[47]).size + x.nm.size + (ByteArray.mk #[47, 100, 111]).size := by show ¬ _ < d.size + 1 + _ + 3; omega
  have r1 : ¬ 9223372036854775807 < d.size + 1 := by omega
  have r2 : ¬ 9223372036854775807 < d.size + 1 + x.nm.size := by omega
  clear hS hn hnm hx hd hT
  cases un
  all_goals
    go_enter Tryz.func57, Tryz.ntmps57
    go_wp2
    generalize w.alloc _ = W0 at *
    go_region_held3 (fun u => Below (w.heap.size + 1) W0 u) (first | exact Below.refl _ _ | exact Below.drew (Below.refl _ _) | assumption)
      (first
        | (go_at_call 92; (with_reducible refine (HI.out _ ?_).mono ?_); (first | assumption | exact Below.drew (Below.refl _ _)); rintro e w' ⟨rfl, hw'⟩))
    all_goals
      go_wp2
      go_ret
      exact ⟨by rw [← HT.out]; rfl, HB.out.trans (hw'.mono (by omega))⟩
end Go.Proofs.YteejocnogpaifaaGreatDoor.Df
/-
  Plain mathematics of sagas: which may be, what is done with one, what is due; what is right stays right. It needs nothing of the program.
  Conditions: none.
-/
namespace Go.Proofs.YteejocnogpaifaaGreatDoor.Sa
open Go.Proofs.YteejocnogpaifaaGreatDoor.Bo (P left wait)
open Go.Proofs.YteejocnogpaifaaGreatDoor.Df

structure Sg where
  id : Int
  dn : ByteArray
  st : Int
  ph : Int
  sp : Int
  tr : Int
  out : Bool
  at_ : Int
  sk : Int
/-- a command -/
structure Cm where
  sg : Int
  sp : Int
  un : Bool
  tr : Int
  pt : ByteArray
  key : ByteArray
/-- a reply -/
structure Rp where
  sg : Int
  sp : Int
  un : Bool
  tr : Int
  good : Bool
def cm0 : Cm := ⟨0, 0, false, 0, ⟨#[]⟩, ⟨#[]⟩⟩
def eqG (a b : Sg) : Bool := decide (a.id = b.id) && decide (a.dn = b.dn) && decide (a.st = b.st) && decide (a.ph = b.ph) && decide (a.sp = b.sp) && decide (a.tr = b.tr) && decide (a.out = b.out) && decide (a.at_ = b.at_) && decide (a.sk = b.sk)
theorem eqG_iff {a b : Sg} : eqG a b = true ↔ a = b := by
  obtain ⟨a1, a2, a3, a4, a5, a6, a7, a8, a9⟩ := a
  obtain ⟨b1, b2, b3, b4, b5, b6, b7, b8, b9⟩ := b
  simp [eqG, and_assoc]
theorem eqG_self (a : Sg) : eqG a a = true := eqG_iff.2 rfl
def eqC (a b : Cm) : Bool := decide (a.sg = b.sg) && decide (a.sp = b.sp) && decide (a.un = b.un) && decide (a.tr = b.tr) && decide (a.pt = b.pt) && decide (a.key = b.key)
theorem eqC_iff {a b : Cm} : eqC a b = true ↔ a = b := by
  obtain ⟨a1, a2, a3, a4, a5, a6⟩ := a
  obtain ⟨b1, b2, b3, b4, b5, b6⟩ := b
  simp [eqC, and_assoc]
theorem eqC_self (a : Cm) : eqC a a = true := eqC_iff.2 rfl

/-! ### Right definitions -/
def RightD (nm : ByteArray) (dl : Int) (ss : List Stp) : Prop := ∃ k, ChkIs nm dl ss k 0
section
variable {nm : ByteArray} {dl k ev : Int} {ss : List Stp}
theorem right_iff (h : ChkIs nm dl ss k ev) : ev = 0 ↔ RightD nm dl ss :=
  ⟨fun e => ⟨k, e ▸ h⟩, fun ⟨_, h'⟩ => (chk_uniq h h').2⟩
theorem right_all (h : RightD nm dl ss) : (1 ≤ ss.length ∧ ss.length ≤ 32) ∧ (0 ≤ dl ∧ dl ≤ 1099511627776) ∧ ∀ i x, ss[i]? = some x → stepE ss i x = 0 := by
  obtain ⟨k, h⟩ := h
  unfold ChkIs at h
  split at h
  · exact absurd h.2 (by decide)
  · split at h
    · exact absurd h.2 (by decide)
    · split at h
      · exact absurd h.2 (by decide)
      · split at h
        · exact absurd h.2 (by decide)
        · refine ⟨by omega, by omega, ?_⟩
          rcases h with ⟨j, t, _, h2, h3, _⟩ | ⟨_, _, h3⟩
          · exact absurd h2.symm h3
          · exact h3
theorem right_step (h : RightD nm dl ss) {i : Nat} {x : Stp} (hx : ss[i]? = some x) : (1 ≤ x.tm ∧ x.tm ≤ 1099511627776) ∧ x.t.Good ∧ x.u.Good := by
  have := (right_all h).2.2 i x hx
  unfold stepE at this
  split at this
  · cases this
  · split at this
    · cases this
    · split at this
      · cases this
      · split at this
        · cases this
        · next h3 =>
          refine ⟨by omega, ?_, ?_⟩
          · exact Decidable.byContradiction fun e => h3 (.inl e)
          · exact Decidable.byContradiction fun e => h3 (.inr e)
end
def stp (ss : List Stp) (i : Int) : Stp := (ss[i.toNat]?).getD ⟨⟨#[]⟩, ⟨#[]⟩, 0, ⟨0, 0, 0, 0⟩, ⟨0, 0, 0, 0⟩, 0⟩
theorem stp_at {ss : List Stp} {i : Int} (h0 : 0 ≤ i) (h1 : i < ss.length) : ss[i.toNat]? = some (stp ss i) := by
  unfold stp
  rw [List.getElem?_eq_getElem (by omega)]
  rfl
theorem stp_is {ss : List Stp} {i : Int} {x : Stp} (h : ss[i.toNat]? = some x) : stp ss i = x := by
  unfold stp
  rw [h]
  rfl
def planOf (ss : List Stp) (s : Sg) : P := if s.ph = 0 then (stp ss s.sp).t else (stp ss s.sp).u

/-! ### Which sagas may be -/
def TriesOk (p : P) (s : Sg) : Prop := (s.ph = 0 ∨ s.ph = 1) ∧ s.tr ≤ p.r + 1 ∧ (s.out = true → 0 < s.tr) ∨ s.ph = 2 ∧ s.tr = p.r + 1 ∧ s.out = false ∨ (3 ≤ s.ph ∧ s.ph ≤ 5) ∧ s.out = false
structure FieldsOk (n : Nat) (s : Sg) : Prop where
  sp : 0 ≤ s.sp ∧ s.sp < n
  id : 0 ≤ s.id
  st : 0 ≤ s.st ∧ s.st ≤ 1099511627776
  at_ : 0 ≤ s.at_ ∧ s.at_ ≤ 1099511627776
  sk : 0 ≤ s.sk ∧ s.sk ≤ 32
  tr : 0 ≤ s.tr
structure GoodS (nm : ByteArray) (dl : Int) (ss : List Stp) (s : Sg) : Prop where
  right : RightD nm dl ss
  dn : s.dn = nm
  fld : FieldsOk ss.length s
  tries : TriesOk (planOf ss s) s
theorem right_name {nm : ByteArray} {dl : Int} {ss : List Stp} (h : RightD nm dl ss) : nameB nm.data.toList = true := by
  obtain ⟨k, h⟩ := h
  unfold ChkIs at h
  split at h
  · exact absurd h.2 (by decide)
  · next hn => simpa using hn
def rightB (nm : ByteArray) (dl : Int) (ss : List Stp) : Bool := nameB nm.data.toList && decide (0 ≤ dl ∧ dl ≤ 1099511627776) && decide (1 ≤ ss.length ∧ ss.length ≤ 32) && (List.range ss.length).all fun i => decide (stepE ss i (stp ss (i : Int)) = 0)
theorem rightB_iff {nm : ByteArray} {dl : Int} {ss : List Stp} : rightB nm dl ss = true ↔ RightD nm dl ss := by
  unfold rightB
  simp only [Bool.and_eq_true, decide_eq_true_eq, List.all_eq_true, List.mem_range]
  constructor
  · rintro ⟨⟨⟨h1, h2⟩, h3⟩, h4⟩
    refine ⟨-1, ?_⟩
    unfold ChkIs
    rw [if_neg (by rw [h1]; simp), if_neg (by omega), if_neg (by omega), if_neg (by omega)]
    refine .inr ⟨rfl, rfl, fun j t ht => ?_⟩
    have hj : j < ss.length := by
      rcases Nat.lt_or_ge j ss.length with h | h
      · exact h
      · rw [List.getElem?_eq_none h] at ht; cases ht
    have := h4 j hj
    rwa [stp_is (i := (j : Int)) (x := t) (by simpa using ht)] at this
  · intro h
    obtain ⟨h3, h2, h4⟩ := right_all h
    exact ⟨⟨⟨right_name h, h2⟩, h3⟩, fun i hi => h4 i _ (by have := stp_at (ss := ss) (i := (i : Int)) (by omega) (by omega); simpa using this)⟩
instance (p : P) (s : Sg) : Decidable (TriesOk p s) := by unfold TriesOk; exact inferInstance
instance (nm : ByteArray) (dl : Int) (ss : List Stp) (s : Sg) : Decidable (GoodS nm dl ss s) :=
  decidable_of_iff (rightB nm dl ss = true ∧ s.dn = nm ∧ ((0 ≤ s.sp ∧ s.sp < ss.length) ∧ 0 ≤ s.id ∧ (0 ≤ s.st ∧ s.st ≤ 1099511627776) ∧ (0 ≤ s.at_ ∧ s.at_ ≤ 1099511627776) ∧ (0 ≤ s.sk ∧ s.sk ≤ 32) ∧ 0 ≤ s.tr) ∧ TriesOk (planOf ss s) s)
    ⟨fun ⟨h1, h2, ⟨h3, h4, h5, h6, h7, h8⟩, h9⟩ => ⟨rightB_iff.1 h1, h2, ⟨h3, h4, h5, h6, h7, h8⟩, h9⟩, fun h => ⟨rightB_iff.2 h.right, h.dn, ⟨h.fld.sp, h.fld.id, h.fld.st, h.fld.at_, h.fld.sk, h.fld.tr⟩, h.tries⟩⟩
def goodB (nm : ByteArray) (dl : Int) (ss : List Stp) (s : Sg) : Bool := decide (GoodS nm dl ss s)
def overB (s : Sg) : Bool := decide (3 ≤ s.ph ∧ s.ph ≤ 5)
/-- why nothing is done with a saga, whatever it is -/
def refE (nm : ByteArray) (dl : Int) (ss : List Stp) (s : Sg) (now : Int) : Int :=
  if GoodS nm dl ss s ∧ 0 ≤ now ∧ now ≤ 1099511627776 then (if overB s = true then 19 else 0) else 1
section
variable {nm : ByteArray} {dl now : Int} {ss : List Stp} {s : Sg}
theorem goodB_yes (h : GoodS nm dl ss s) : goodB nm dl ss s = true := by unfold goodB; exact decide_eq_true h
theorem goodB_no (h : ¬ GoodS nm dl ss s) : goodB nm dl ss s = false := by unfold goodB; exact decide_eq_false h
theorem goodB_iff : goodB nm dl ss s = true ↔ GoodS nm dl ss s := by unfold goodB; exact decide_eq_true_iff
theorem refE_bad (h : ¬ GoodS nm dl ss s) : refE nm dl ss s now = 1 := by unfold refE; rw [if_neg fun e => h e.1]
theorem refE_now (h : ¬ (0 ≤ now ∧ now ≤ 1099511627776)) : refE nm dl ss s now = 1 := by unfold refE; rw [if_neg fun e => h e.2]
theorem refE_over (h : GoodS nm dl ss s) (hn : 0 ≤ now ∧ now ≤ 1099511627776) (ho : overB s = true) : refE nm dl ss s now = 19 := by unfold refE; rw [if_pos ⟨h, hn⟩, if_pos ho]
theorem refE_fine (h : GoodS nm dl ss s) (hn : 0 ≤ now ∧ now ≤ 1099511627776) (ho : overB s = false) : refE nm dl ss s now = 0 := by unfold refE; rw [if_pos ⟨h, hn⟩, if_neg (by rw [ho]; simp)]
theorem refE_zero (h : refE nm dl ss s now = 0) : GoodS nm dl ss s ∧ (0 ≤ now ∧ now ≤ 1099511627776) ∧ (s.ph = 0 ∨ s.ph = 1 ∨ s.ph = 2) := by
  unfold refE at h
  split at h
  · next hg =>
    refine ⟨hg.1, hg.2, ?_⟩
    split at h
    · cases h
    · next ho =>
      have ho' : ¬ (3 ≤ s.ph ∧ s.ph ≤ 5) := by simpa [overB] using ho
      rcases hg.1.tries with h1 | h1 | h1
      · omega
      · omega
      · exact absurd h1.1 ho'
  · cases h
theorem good_step (h : GoodS nm dl ss s) : ss[s.sp.toNat]? = some (stp ss s.sp) := stp_at h.fld.sp.1 h.fld.sp.2
theorem good_plan (h : GoodS nm dl ss s) : (planOf ss s).Good := by
  have := right_step h.right (good_step h)
  unfold planOf
  split
  · exact this.2.1
  · exact this.2.2
theorem good_tr (h : GoodS nm dl ss s) (hp : s.ph = 0 ∨ s.ph = 1 ∨ s.ph = 2) : 0 ≤ s.tr ∧ s.tr ≤ (planOf ss s).r + 1 ∧ s.tr ≤ 1001 := by
  have h0 := h.fld.tr
  obtain ⟨h1, h2, _⟩ := good_plan h
  rcases h.tries with h3 | h3 | h3 <;> omega
end

/-! ### What is done -/
def mayC (dl : Int) (ss : List Stp) (s : Sg) (now : Int) : Bool := decide ((s.ph = 0 ∧ now < endT dl s.st ∨ s.ph = 1) ∧ s.out = false ∧ s.at_ ≤ now ∧ s.tr ≤ (planOf ss s).r)
def mayB (nm : ByteArray) (dl : Int) (ss : List Stp) (s : Sg) (now : Int) : Bool := decide (refE nm dl ss s now = 0) && mayC dl ss s now
def emitS (ss : List Stp) (s : Sg) (now : Int) : Sg := ⟨s.id, s.dn, s.st, s.ph, s.sp, s.tr + 1, true, addT now (stp ss s.sp).tm, s.sk⟩
def putS (s : Sg) (ph sp now : Int) : Sg := ⟨s.id, s.dn, s.st, ph, sp, 0, false, now, s.sk⟩
def endS (s : Sg) (ph : Int) : Sg := ⟨s.id, s.dn, s.st, ph, s.sp, s.tr, false, s.at_, s.sk⟩
def aheadS (s : Sg) (last now : Int) : Sg := if s.sp = 0 then endS s last else putS s 1 (s.sp - 1) now
def doneS (n : Nat) (s : Sg) (now : Int) : Sg := if s.ph = 0 then (if s.sp = (n : Int) - 1 then endS s 3 else putS s 0 (s.sp + 1) now) else if 0 < s.sk then aheadS s 5 now else aheadS s 4 now
def restS (ss : List Stp) (s : Sg) (now : Int) : Sg := ⟨s.id, s.dn, s.st, s.ph, s.sp, s.tr, false, addT now (wait (planOf ss s) (s.tr - 1).toNat), s.sk⟩
def failS (ss : List Stp) (s : Sg) (now : Int) : Sg := if s.tr ≤ (planOf ss s).r then restS ss s now else if s.ph = 0 then aheadS s 4 now else endS s 2
def skipS (s : Sg) : Sg := ⟨s.id, s.dn, s.st, s.ph, s.sp, s.tr, s.out, s.at_, min (s.sk + 1) 32⟩
def accB (s : Sg) (r : Rp) : Bool := (decide (s.ph = 0) && !r.un || decide (s.ph = 1) && r.un) && (decide (r.sp = s.sp) && decide (1 ≤ r.tr) && decide (r.tr ≤ s.tr)) && (r.good || decide (r.tr = s.tr) && s.out)
def replyA (nm : ByteArray) (dl : Int) (ss : List Stp) (s : Sg) (r : Rp) (now : Int) : Sg × Int :=
  if refE nm dl ss s now ≠ 0 then (s, refE nm dl ss s now)
  else if r.sg ≠ s.id then (s, 7)
  else if accB s r = false then (s, 15)
  else if r.good = true then (doneS ss.length s now, 0)
  else (failS ss s now, 0)
def lateA (nm : ByteArray) (dl : Int) (ss : List Stp) (s : Sg) (now : Int) : Sg × Int :=
  if refE nm dl ss s now ≠ 0 then (s, refE nm dl ss s now)
  else if s.out = false ∨ now < s.at_ then (s, 9) else (failS ss s now, 0)
def expireA (nm : ByteArray) (dl : Int) (ss : List Stp) (s : Sg) (now : Int) : Sg × Int :=
  if refE nm dl ss s now ≠ 0 then (s, refE nm dl ss s now)
  else if s.ph ≠ 0 ∨ now < endT dl s.st then (s, 9) else (aheadS s 4 now, 0)
def cancelA (nm : ByteArray) (dl : Int) (ss : List Stp) (s : Sg) (now : Int) : Sg × Int :=
  if refE nm dl ss s now ≠ 0 then (s, refE nm dl ss s now)
  else if s.ph ≠ 0 then (s, 9) else (aheadS s 4 now, 0)
def retryA (nm : ByteArray) (dl : Int) (ss : List Stp) (s : Sg) (now : Int) : Sg × Int :=
  if refE nm dl ss s now ≠ 0 then (s, refE nm dl ss s now)
  else if s.ph ≠ 2 then (s, 9) else (putS s 1 s.sp now, 0)
def skipA (nm : ByteArray) (dl : Int) (ss : List Stp) (s : Sg) (now : Int) : Sg × Int :=
  if refE nm dl ss s now ≠ 0 then (s, refE nm dl ss s now)
  else if s.ph ≠ 2 then (s, 9) else (doneS ss.length (skipS s) now, 0)
def abandonA (nm : ByteArray) (dl : Int) (ss : List Stp) (s : Sg) (now : Int) : Sg × Int :=
  if refE nm dl ss s now ≠ 0 then (s, refE nm dl ss s now)
  else if s.ph ≠ 2 then (s, 9) else (endS s 5, 0)

/-! ### What is right stays right; and it has a try that is out, or one that is left -/
structure Live (nm : ByteArray) (dl : Int) (ss : List Stp) (s : Sg) : Prop where
  good : GoodS nm dl ss s
  live : s.ph = 0 ∨ s.ph = 1 → s.out = true ∨ s.tr ≤ (planOf ss s).r
section
variable {nm : ByteArray} {dl now : Int} {ss : List Stp} {s : Sg}
theorem plan_at (hr : RightD nm dl ss) {t : Sg} (h0 : 0 ≤ t.sp) (h1 : t.sp < ss.length) : (planOf ss t).Good := by
  have := right_step hr (stp_at h0 h1)
  unfold planOf
  split
  · exact this.2.1
  · exact this.2.2
theorem live_put (h : GoodS nm dl ss s) {ph sp : Int} (hp : ph = 0 ∨ ph = 1) (h0 : 0 ≤ sp) (h1 : sp < ss.length) (hn : 0 ≤ now ∧ now ≤ 1099511627776) : Live nm dl ss (putS s ph sp now) := by
  have hg : (planOf ss (putS s ph sp now)).Good := plan_at h.right h0 h1
  have hr := hg.1
  exact ⟨⟨h.right, h.dn, ⟨⟨h0, h1⟩, h.fld.id, h.fld.st, hn, h.fld.sk, Int.le_refl _⟩, .inl ⟨hp, by show (0 : Int) ≤ _; omega, fun e => by cases e⟩⟩, fun _ => .inr hr⟩
theorem live_end (h : GoodS nm dl ss s) {ph : Int} (hp : 3 ≤ ph ∧ ph ≤ 5) : Live nm dl ss (endS s ph) :=
  ⟨⟨h.right, h.dn, ⟨h.fld.sp, h.fld.id, h.fld.st, h.fld.at_, h.fld.sk, h.fld.tr⟩, .inr (.inr ⟨hp, rfl⟩)⟩, fun e => by
    have e' : ph = 0 ∨ ph = 1 := e
    omega⟩
theorem live_ahead (h : GoodS nm dl ss s) {last : Int} (hl : 3 ≤ last ∧ last ≤ 5) (hn : 0 ≤ now ∧ now ≤ 1099511627776) : Live nm dl ss (aheadS s last now) := by
  have := h.fld.sp
  unfold aheadS
  split
  · exact live_end h hl
  · exact live_put h (.inr rfl) (by omega) (by omega) hn
theorem live_done (h : GoodS nm dl ss s) (hn : 0 ≤ now ∧ now ≤ 1099511627776) : Live nm dl ss (doneS ss.length s now) := by
  have := h.fld.sp
  unfold doneS
  split
  · split
    · exact live_end h (by omega)
    · exact live_put h (.inl rfl) (by omega) (by omega) hn
  · split
    · exact live_ahead h (by omega) hn
    · exact live_ahead h (by omega) hn
theorem live_fail (h : GoodS nm dl ss s) (hp : s.ph = 0 ∨ s.ph = 1) (hn : 0 ≤ now ∧ now ≤ 1099511627776) : Live nm dl ss (failS ss s now) := by
  have ht := good_tr h (by omega)
  unfold failS
  split
  · next hl =>
    exact ⟨⟨h.right, h.dn, ⟨h.fld.sp, h.fld.id, h.fld.st, ⟨addT_lo _ _, addT_hi _ _⟩, h.fld.sk, h.fld.tr⟩, .inl ⟨hp, ht.2.1, fun e => by cases e⟩⟩, fun _ => .inr hl⟩
  · split
    · exact live_ahead h (by omega) hn
    · next hl h0 =>
      have h1 : s.ph = 1 := by omega
      have hpl : planOf ss (endS s 2) = planOf ss s := by
        unfold planOf
        rw [if_neg (show ¬ (endS s 2).ph = 0 by show ¬ (2 : Int) = 0; decide), if_neg h0]
        rfl
      exact ⟨⟨h.right, h.dn, ⟨h.fld.sp, h.fld.id, h.fld.st, h.fld.at_, h.fld.sk, h.fld.tr⟩, .inr (.inl ⟨rfl, by rw [hpl]; show s.tr = _; omega, rfl⟩)⟩, fun e => by
        have e' : (2 : Int) = 0 ∨ (2 : Int) = 1 := e
        omega⟩
theorem live_emit (h : GoodS nm dl ss s) (hm : mayC dl ss s now = true) : Live nm dl ss (emitS ss s now) := by
  have hm' := of_decide_eq_true hm
  have ht := good_tr h (by omega)
  exact ⟨⟨h.right, h.dn, ⟨h.fld.sp, h.fld.id, h.fld.st, ⟨addT_lo _ _, addT_hi _ _⟩, h.fld.sk, by show 0 ≤ s.tr + 1; omega⟩, .inl ⟨by show s.ph = 0 ∨ s.ph = 1; omega, by
    show s.tr + 1 ≤ (planOf ss s).r + 1
    omega, fun _ => by show 0 < s.tr + 1; omega⟩⟩, fun _ => .inl rfl⟩
theorem good_skip (h : GoodS nm dl ss s) : GoodS nm dl ss (skipS s) :=
  ⟨h.right, h.dn, ⟨h.fld.sp, h.fld.id, h.fld.st, h.fld.at_, by show 0 ≤ min (s.sk + 1) 32 ∧ min (s.sk + 1) 32 ≤ 32; have := h.fld.sk; omega, h.fld.tr⟩, h.tries⟩
end
end Go.Proofs.YteejocnogpaifaaGreatDoor.Sa
/-
  Plain mathematics of what is done with a saga: every act, what it leaves, and what is due.
  Conditions: none.
-/
namespace Go.Proofs.YteejocnogpaifaaGreatDoor.Sa
open Go.Proofs.YteejocnogpaifaaGreatDoor.Bo (P left wait)
open Go.Proofs.YteejocnogpaifaaGreatDoor.Df

/-- an act -/
structure Ac where
  k : Int
  now : Int
  r : Rp
def keyS (s : Sg) (ss : List Stp) : ByteArray := ⟨(keyL s.id s.sp ss (decide (s.ph = 1))).toArray⟩
def emitC (ss : List Stp) (s : Sg) : Cm := ⟨s.id, s.sp, decide (s.ph = 1), s.tr + 1, (stp ss s.sp).pt, keyS s ss⟩
def emitA (nm : ByteArray) (dl : Int) (ss : List Stp) (s : Sg) (now : Int) : Sg × Cm × Int :=
  if refE nm dl ss s now ≠ 0 then (s, cm0, refE nm dl ss s now)
  else if mayC dl ss s now = false then (s, cm0, 9) else (emitS ss s now, emitC ss s, 0)
/-- Late to Abandon, by number -/
def numA (nm : ByteArray) (dl : Int) (ss : List Stp) (s : Sg) (k now : Int) : Sg × Int :=
  if k = 0 then lateA nm dl ss s now
  else if k = 1 then expireA nm dl ss s now
  else if k = 2 then cancelA nm dl ss s now
  else if k = 3 then retryA nm dl ss s now
  else if k = 4 then skipA nm dl ss s now
  else if k = 5 then abandonA nm dl ss s now
  else if refE nm dl ss s now ≠ 0 then (s, refE nm dl ss s now) else (s, 9)
def doA (nm : ByteArray) (dl : Int) (ss : List Stp) (s : Sg) (a : Ac) : Sg × Cm × Int :=
  if 0 ≤ a.k ∧ a.k ≤ 2 then emitA nm dl ss s a.now
  else if 3 ≤ a.k ∧ a.k ≤ 5 then ((replyA nm dl ss s a.r a.now).1, cm0, (replyA nm dl ss s a.r a.now).2)
  else if 6 ≤ a.k ∧ a.k ≤ 11 then ((numA nm dl ss s (a.k - 6) a.now).1, cm0, (numA nm dl ss s (a.k - 6) a.now).2)
  else (s, cm0, 0)

/-! ### What is right stays right, an error changes nothing -/
section
variable {nm : ByteArray} {dl now : Int} {ss : List Stp} {s : Sg}
theorem live_emitA (h : Live nm dl ss s) : Live nm dl ss (emitA nm dl ss s now).1 ∧ ((emitA nm dl ss s now).2.2 ≠ 0 → (emitA nm dl ss s now).1 = s) := by
  unfold emitA
  split
  · exact ⟨h, fun _ => rfl⟩
  · split
    · exact ⟨h, fun _ => rfl⟩
    · next hm => exact ⟨live_emit h.good (by simpa using hm), fun e => absurd rfl e⟩
theorem acc_phase {r : Rp} (h : accB s r = true) : s.ph = 0 ∨ s.ph = 1 := by
  unfold accB at h
  simp only [Bool.and_eq_true, Bool.or_eq_true, decide_eq_true_eq] at h
  rcases h.1.1 with ⟨h1, _⟩ | ⟨h1, _⟩
  · exact .inl h1
  · exact .inr h1
theorem out_phase (h : GoodS nm dl ss s) (ho : s.out = true) : s.ph = 0 ∨ s.ph = 1 := by
  rcases h.tries with h3 | ⟨_, _, h3⟩ | ⟨_, h3⟩
  · exact h3.1
  · rw [ho] at h3; cases h3
  · rw [ho] at h3; cases h3
theorem live_replyA {r : Rp} (h : Live nm dl ss s) : Live nm dl ss (replyA nm dl ss s r now).1 ∧ ((replyA nm dl ss s r now).2 ≠ 0 → (replyA nm dl ss s r now).1 = s) := by
  unfold replyA
  split
  · exact ⟨h, fun _ => rfl⟩
  · next h0 =>
    have hr := refE_zero (Decidable.not_not.1 h0)
    split
    · exact ⟨h, fun _ => rfl⟩
    · split
      · exact ⟨h, fun _ => rfl⟩
      · next ha =>
        split
        · exact ⟨live_done h.good hr.2.1, fun e => absurd rfl e⟩
        · exact ⟨live_fail h.good (acc_phase (by simpa using ha)) hr.2.1, fun e => absurd rfl e⟩
theorem live_numA {k : Int} (h : Live nm dl ss s) : Live nm dl ss (numA nm dl ss s k now).1 ∧ ((numA nm dl ss s k now).2 ≠ 0 → (numA nm dl ss s k now).1 = s) := by
  by_cases h0 : refE nm dl ss s now = 0
  · have hr := refE_zero h0
    unfold numA lateA expireA cancelA retryA skipA abandonA
    simp only [h0, ne_eq, not_true_eq_false, if_false]
    split
    · split
      · exact ⟨h, fun _ => rfl⟩
      · next hl => exact ⟨live_fail h.good (out_phase h.good (by simpa using fun e => hl (.inl e))) hr.2.1, fun e => absurd rfl e⟩
    · split
      · split
        · exact ⟨h, fun _ => rfl⟩
        · exact ⟨live_ahead h.good (by omega) hr.2.1, fun e => absurd rfl e⟩
      · split
        · split
          · exact ⟨h, fun _ => rfl⟩
          · exact ⟨live_ahead h.good (by omega) hr.2.1, fun e => absurd rfl e⟩
        · split
          · split
            · exact ⟨h, fun _ => rfl⟩
            · exact ⟨live_put h.good (.inr rfl) h.good.fld.sp.1 h.good.fld.sp.2 hr.2.1, fun e => absurd rfl e⟩
          · split
            · split
              · exact ⟨h, fun _ => rfl⟩
              · exact ⟨live_done (good_skip h.good) hr.2.1, fun e => absurd rfl e⟩
            · split
              · split
                · exact ⟨h, fun _ => rfl⟩
                · exact ⟨live_end h.good (by omega), fun e => absurd rfl e⟩
              · exact ⟨h, fun _ => rfl⟩
  · unfold numA lateA expireA cancelA retryA skipA abandonA
    simp only [ne_eq, h0, not_false_eq_true, if_true]
    repeat' split
    all_goals exact ⟨h, fun _ => rfl⟩
theorem live_doA {a : Ac} (h : Live nm dl ss s) : Live nm dl ss (doA nm dl ss s a).1 ∧ ((doA nm dl ss s a).2.2 ≠ 0 → (doA nm dl ss s a).1 = s) := by
  unfold doA
  split
  · exact live_emitA h
  · split
    · exact live_replyA h
    · split
      · exact live_numA h
      · exact ⟨h, fun _ => rfl⟩
/-- how it begins -/
def beginS (nm : ByteArray) (id now : Int) : Sg := ⟨id, nm, ofT now, 0, 0, 0, false, ofT now, 0⟩
theorem live_begin (h : RightD nm dl ss) {id : Int} (hi : 0 ≤ id) : Live nm dl ss (beginS nm id now) := by
  have hl := (right_all h).1
  have hp : (planOf ss (beginS nm id now)).Good := plan_at h (Int.le_refl _) (by show (0 : Int) < _; omega)
  have hr := hp.1
  exact ⟨⟨h, rfl, ⟨⟨Int.le_refl _, by show (0 : Int) < _; omega⟩, hi, ⟨ofT_lo _, ofT_hi _⟩, ⟨ofT_lo _, ofT_hi _⟩, ⟨Int.le_refl _, by show (0 : Int) ≤ 32; decide⟩, Int.le_refl _⟩, .inl ⟨.inl rfl, by show (0 : Int) ≤ _; omega, fun e => by cases e⟩⟩, fun _ => .inr hr⟩
/-- what is over stays -/
theorem over_stays {a : Ac} (ho : 3 ≤ s.ph) : (doA nm dl ss s a).1 = s := by
  have h0 : ¬ refE nm dl ss s a.now = 0 := fun e => by have := refE_zero e; omega
  unfold doA emitA replyA numA lateA expireA cancelA retryA skipA abandonA
  simp only [ne_eq, h0, not_false_eq_true, if_true]
  repeat' split
  all_goals rfl
/-- what is parked stays, but for an operator -/
theorem parked_stays {a : Ac} (h : GoodS nm dl ss s) (ho : s.ph = 2) (hk : a.k < 9) : (doA nm dl ss s a).1 = s := by
  have hm : mayC dl ss s a.now = false := by unfold mayC; exact decide_eq_false (by omega)
  have ha : accB s a.r = false := by
    cases e : accB s a.r with
    | false => rfl
    | true => have := acc_phase e; omega
  have hout : s.out = false := by
    cases e : s.out with
    | false => rfl
    | true => have := out_phase h e; omega
  unfold doA emitA replyA numA lateA expireA cancelA
  simp only [hm, ha, hout, if_true, true_or]
  repeat' split
  all_goals first | rfl | omega
/-! ### What is due -/
/-- the end, of one that goes forward -/
def endI (dl : Int) (s : Sg) : Int := if s.ph = 0 then endT dl s.st else 1099511627777
def dueN (dl : Int) (ss : List Stp) (s : Sg) : Int := if (s.ph = 0 ∨ s.ph = 1) ∧ (s.out = true ∨ s.tr ≤ (planOf ss s).r) then min (endI dl s) s.at_ else endI dl s
def dueI (nm : ByteArray) (dl : Int) (ss : List Stp) (s : Sg) : Int := if GoodS nm dl ss s ∧ 0 ≤ dueN dl ss s ∧ dueN dl ss s ≤ 1099511627776 then dueN dl ss s else 0
def dueB (nm : ByteArray) (dl : Int) (ss : List Stp) (s : Sg) : Bool := decide (GoodS nm dl ss s ∧ 0 ≤ dueN dl ss s ∧ dueN dl ss s ≤ 1099511627776)
theorem end_in {dl st : Int} : 0 ≤ endT dl st ∧ endT dl st ≤ 1099511627777 := by
  unfold endT
  split
  · omega
  · have h1 := addT_lo st dl
    have h2 := addT_hi st dl
    omega
theorem due_live (h : Live nm dl ss s) (hp : s.ph = 0 ∨ s.ph = 1) : dueB nm dl ss s = true ∧ dueI nm dl ss s = min (endI dl s) s.at_ ∧ 0 ≤ dueI nm dl ss s ∧ dueI nm dl ss s ≤ 1099511627776 := by
  have hl := h.live hp
  have ha := h.good.fld.at_
  have he : 0 ≤ endI dl s := by
    have := end_in (dl := dl) (st := s.st)
    unfold endI
    split <;> omega
  have hd : dueN dl ss s = min (endI dl s) s.at_ := by unfold dueN; rw [if_pos ⟨hp, hl⟩]
  have hg : GoodS nm dl ss s ∧ 0 ≤ dueN dl ss s ∧ dueN dl ss s ≤ 1099511627776 := ⟨h.good, by omega, by omega⟩
  unfold dueB dueI
  rw [if_pos hg, decide_eq_true hg]
  exact ⟨rfl, hd, hg.2.1, hg.2.2⟩
theorem due_rest (hp : ¬ (s.ph = 0 ∨ s.ph = 1)) : dueB nm dl ss s = false ∧ dueI nm dl ss s = 0 := by
  have hd : dueN dl ss s = 1099511627777 := by
    unfold dueN endI
    rw [if_neg (fun e => hp e.1), if_neg (by omega)]
  have hg : ¬ (GoodS nm dl ss s ∧ 0 ≤ dueN dl ss s ∧ dueN dl ss s ≤ 1099511627776) := by omega
  unfold dueB dueI
  rw [if_neg hg, decide_eq_false hg]
  exact ⟨rfl, rfl⟩
/-- can anything be done by time? -/
def timeB (nm : ByteArray) (dl : Int) (ss : List Stp) (s : Sg) (n : Int) : Bool := decide ((lateA nm dl ss s n).2 = 0) || decide ((expireA nm dl ss s n).2 = 0) || mayB nm dl ss s n
theorem time_due (h : Live nm dl ss s) (hp : s.ph = 0 ∨ s.ph = 1) {n : Int} (hn : 0 ≤ n ∧ n ≤ 1099511627776) : timeB nm dl ss s n = decide (dueI nm dl ss s ≤ n) := by
  have hl := h.live hp
  have h0 : refE nm dl ss s n = 0 := refE_fine h.good hn (by unfold overB; exact decide_eq_false (by omega))
  rw [(due_live h hp).2.1]
  have e1 : ((lateA nm dl ss s n).2 = 0) ↔ (s.out = true ∧ s.at_ ≤ n) := by
    unfold lateA
    rw [if_neg (by simpa using h0)]
    split
    · next hh =>
      refine ⟨fun e => (by cases e), fun e => ?_⟩
      rcases hh with hh | hh
      · rw [e.1] at hh; cases hh
      · omega
    · next hh => exact ⟨fun _ => ⟨by simpa using fun e => hh (.inl e), by omega⟩, fun _ => rfl⟩
  have e2 : ((expireA nm dl ss s n).2 = 0) ↔ (s.ph = 0 ∧ endT dl s.st ≤ n) := by
    unfold expireA
    rw [if_neg (by simpa using h0)]
    split
    · next hh => exact ⟨fun e => (by cases e), fun e => by omega⟩
    · next hh => exact ⟨fun _ => by omega, fun _ => rfl⟩
  rw [Bool.eq_iff_iff]
  unfold timeB mayB mayC endI
  rw [h0]
  simp only [Bool.or_eq_true, Bool.and_eq_true, decide_eq_true_eq, e1, e2, true_and]
  cases ho : s.out with
  | true => split <;> simp <;> omega
  | false =>
    have hl' : s.tr ≤ (planOf ss s).r := by
      rcases hl with hl | hl
      · rw [ho] at hl; cases hl
      · exact hl
    split <;> simp <;> omega
end
end Go.Proofs.YteejocnogpaifaaGreatDoor.Sa
/-
  Plain mathematics of rows of acts: a saga's number stays, its tries stay few.
  Conditions: none.
-/
namespace Go.Proofs.YteejocnogpaifaaGreatDoor.Sa
open Go.Proofs.YteejocnogpaifaaGreatDoor.Bo (P left wait)
open Go.Proofs.YteejocnogpaifaaGreatDoor.Df

section
variable {nm : ByteArray} {dl now : Int} {ss : List Stp} {s : Sg}
theorem id_ahead {l : Int} : (aheadS s l now).id = s.id := by unfold aheadS; split <;> rfl
theorem id_done {n : Nat} : (doneS n s now).id = s.id := by
  unfold doneS
  repeat' split
  all_goals first | rfl | exact id_ahead
theorem id_fail : (failS ss s now).id = s.id := by
  unfold failS
  repeat' split
  all_goals first | rfl | exact id_ahead
theorem id_doA {a : Ac} : (doA nm dl ss s a).1.id = s.id := by
  unfold doA
  split
  · unfold emitA
    repeat' split
    all_goals rfl
  · split
    · unfold replyA
      repeat' split
      all_goals first | rfl | exact id_done | exact id_fail
    · split
      · unfold numA lateA expireA cancelA retryA skipA abandonA
        repeat' split
        all_goals first | rfl | exact id_fail | exact id_ahead | exact id_done
      · rfl
theorem tr_ahead {l : Int} (h : 0 ≤ s.tr ∧ s.tr ≤ 1001) : 0 ≤ (aheadS s l now).tr ∧ (aheadS s l now).tr ≤ 1001 := by
  unfold aheadS
  split
  · exact h
  · exact ⟨Int.le_refl _, by show (0 : Int) ≤ 1001; decide⟩
theorem tr_done {n : Nat} (h : 0 ≤ s.tr ∧ s.tr ≤ 1001) : 0 ≤ (doneS n s now).tr ∧ (doneS n s now).tr ≤ 1001 := by
  unfold doneS
  repeat' split
  · exact h
  · exact ⟨Int.le_refl _, by show (0 : Int) ≤ 1001; decide⟩
  · exact tr_ahead h
  · exact tr_ahead h
theorem tr_fail (h : 0 ≤ s.tr ∧ s.tr ≤ 1001) : 0 ≤ (failS ss s now).tr ∧ (failS ss s now).tr ≤ 1001 := by
  unfold failS
  repeat' split
  · exact h
  · exact tr_ahead h
  · exact h
theorem tr_skip (h : 0 ≤ s.tr ∧ s.tr ≤ 1001) : 0 ≤ (skipS s).tr ∧ (skipS s).tr ≤ 1001 := h
theorem tr_doA {a : Ac} (hg : GoodS nm dl ss s) (h : 0 ≤ s.tr ∧ s.tr ≤ 1001) : 0 ≤ (doA nm dl ss s a).1.tr ∧ (doA nm dl ss s a).1.tr ≤ 1001 := by
  unfold doA
  split
  · unfold emitA
    split
    · exact h
    · split
      · exact h
      · next hm =>
        have hm' : mayC dl ss s a.now = true := by simpa using hm
        have hm2 := of_decide_eq_true hm'
        have hp := good_plan hg
        have hr := hp.2.1
        exact ⟨by show 0 ≤ s.tr + 1; omega, by show s.tr + 1 ≤ 1001; omega⟩
  · split
    · unfold replyA
      repeat' split
      all_goals first | exact h | exact tr_done h | exact tr_fail h
    · split
      · unfold numA lateA expireA cancelA retryA skipA abandonA
        repeat' split
        all_goals first | exact h | exact tr_fail h | exact tr_ahead h | exact tr_done (tr_skip h) | exact ⟨Int.le_refl _, by show (0 : Int) ≤ 1001; decide⟩
      · exact h
/-- a saga that a row of acts has come to -/
structure Row7 (nm : ByteArray) (dl : Int) (ss : List Stp) (id : Int) (s : Sg) : Prop where
  live : Live nm dl ss s
  id : s.id = id
  tr : 0 ≤ s.tr ∧ s.tr ≤ 1001
theorem row_begin (h : RightD nm dl ss) {id t : Int} (hi : 0 ≤ id) : Row7 nm dl ss id (beginS nm id t) := ⟨live_begin h hi, rfl, Int.le_refl _, by show (0 : Int) ≤ 1001; decide⟩
theorem Row7.does {id : Int} (h : Row7 nm dl ss id s) (a : Ac) : Row7 nm dl ss id (doA nm dl ss s a).1 := ⟨(live_doA h.live).1, id_doA.trans h.id, tr_doA h.live.good h.tr⟩
/-- its tries never pass the plan's -/
theorem Row7.tries {id : Int} (h : Row7 nm dl ss id s) : (planOf ss s).r + 1 < s.tr → overB s = true := by
  intro ht
  unfold overB
  rw [decide_eq_true_eq]
  rcases h.live.good.tries with h1 | h1 | h1
  · omega
  · omega
  · exact h1.1
/-- a command's key, try, and what is out behind it -/
theorem emit_tells {a : Ac} (hk : 0 ≤ a.k ∧ a.k ≤ 2) (he : (doA nm dl ss s a).2.2 = 0) : (doA nm dl ss s a).2.1 = emitC ss s ∧ (doA nm dl ss s a).1.out = true := by
  unfold doA at *
  rw [if_pos hk] at *
  unfold emitA at *
  split at he
  · next h => exact absurd he h
  · next h =>
    split at he
    · cases he
    · next hm =>
      rw [if_neg h, if_neg hm]
      exact ⟨rfl, rfl⟩
end
end Go.Proofs.YteejocnogpaifaaGreatDoor.Sa
/-
  Sagas, commands, replies and acts as values: their cells in a block, and how they are compared.
  Conditions: none.
-/
namespace Go.Proofs.YteejocnogpaifaaGreatDoor.Sa
open Go.RowKit
open Go.Proofs.YteejocnogpaifaaGreatDoor.Bo (P Made ret_int ret_bool)
open Go.Proofs.YteejocnogpaifaaGreatDoor.Df

def Sg.arr (s : Sg) : Array Value := #[.int .i64 s.id, .string s.dn, .int .i64 s.st, .int .i64 s.ph, .int .i64 s.sp, .int .i64 s.tr, .bool s.out, .int .i64 s.at_, .int .i64 s.sk]
def Cm.arr (c : Cm) : Array Value := #[.int .i64 c.sg, .int .i64 c.sp, .bool c.un, .int .i64 c.tr, .string c.pt, .string c.key]
def Rp.arr (r : Rp) : Array Value := #[.int .i64 r.sg, .int .i64 r.sp, .bool r.un, .int .i64 r.tr, .bool r.good]
section
variable {w : World} {g : Nat} {s : Sg} (h : Box w g 49 s.arr)
include h
theorem sgcells : w.cell? ⟨g, 0, none⟩ = some (.int .i64 s.id) ∧ w.cell? ⟨g, 1, none⟩ = some (.string s.dn) ∧ w.cell? ⟨g, 2, none⟩ = some (.int .i64 s.st) ∧ w.cell? ⟨g, 3, none⟩ = some (.int .i64 s.ph) ∧ w.cell? ⟨g, 4, none⟩ = some (.int .i64 s.sp) ∧
    w.cell? ⟨g, 5, none⟩ = some (.int .i64 s.tr) ∧ w.cell? ⟨g, 6, none⟩ = some (.bool s.out) ∧ w.cell? ⟨g, 7, none⟩ = some (.int .i64 s.at_) ∧ w.cell? ⟨g, 8, none⟩ = some (.int .i64 s.sk) :=
  ⟨h.cell 0, h.cell 1, h.cell 2, h.cell 3, h.cell 4, h.cell 5, h.cell 6, h.cell 7, h.cell 8⟩
end
section
variable {w : World} {g : Nat} {c : Cm} (h : Box w g 37 c.arr)
include h
theorem cmcells : w.cell? ⟨g, 0, none⟩ = some (.int .i64 c.sg) ∧ w.cell? ⟨g, 1, none⟩ = some (.int .i64 c.sp) ∧ w.cell? ⟨g, 2, none⟩ = some (.bool c.un) ∧ w.cell? ⟨g, 3, none⟩ = some (.int .i64 c.tr) ∧ w.cell? ⟨g, 4, none⟩ = some (.string c.pt) ∧ w.cell? ⟨g, 5, none⟩ = some (.string c.key) :=
  ⟨h.cell 0, h.cell 1, h.cell 2, h.cell 3, h.cell 4, h.cell 5⟩
end
section
variable {w : World} {g : Nat} {nm : ByteArray} {dl : Int} {A : Option Addr} {n c : Nat} (h : Box w g 33 #[.string nm, .int .i64 dl, .slice A n c])
include h
theorem dfcells : w.cell? ⟨g, 0, none⟩ = some (.string nm) ∧ w.cell? ⟨g, 1, none⟩ = some (.int .i64 dl) ∧ w.cell? ⟨g, 2, none⟩ = some (.slice A n c) := ⟨h.cell 0, h.cell 1, h.cell 2⟩
end
theorem box_new2 (w : World) (o : Obj) (t : TypeId) (cs : Array Value) : Box ((w.alloc o).alloc (.cells cs t)) (w.heap.size + 1) t cs := by
  have := Box.new (w.alloc o) t cs
  simpa using this
theorem box_new3 (w : World) (o o' : Obj) (t : TypeId) (cs : Array Value) : Box (((w.alloc o).alloc o').alloc (.cells cs t)) (w.heap.size + 2) t cs := by
  have := Box.new ((w.alloc o).alloc o') t cs
  simpa using this
theorem box_new4 (w : World) (o o' o2 : Obj) (t : TypeId) (cs : Array Value) : Box ((((w.alloc o).alloc o').alloc o2).alloc (.cells cs t)) (w.heap.size + 3) t cs := by
  have := Box.new (((w.alloc o).alloc o').alloc o2) t cs
  simpa using this
/-- a definition and a saga that a call has laid, behind whatever has been made since -/
theorem dsbox {w w' : World} {nm : ByteArray} {dl : Int} {A : Option Addr} {n c : Nat} {s : Sg} (h : Below (w.heap.size + 2) ((w.alloc (.cells #[.string nm, .int .i64 dl, .slice A n c] 33)).alloc (.cells #[.int .i64 s.id, .string s.dn, .int .i64 s.st, .int .i64 s.ph, .int .i64 s.sp, .int .i64 s.tr, .bool s.out, .int .i64 s.at_, .int .i64 s.sk] 49)) w') :
    Box w' w.heap.size 33 #[.string nm, .int .i64 dl, .slice A n c] ∧ Box w' (w.heap.size + 1) 49 s.arr := by
  have h1 : Box ((w.alloc (.cells #[.string nm, .int .i64 dl, .slice A n c] 33)).alloc (.cells #[.int .i64 s.id, .string s.dn, .int .i64 s.st, .int .i64 s.ph, .int .i64 s.sp, .int .i64 s.tr, .bool s.out, .int .i64 s.at_, .int .i64 s.sk] 49)) w.heap.size 33 #[.string nm, .int .i64 dl, .slice A n c] := (Box.new w 33 #[.string nm, .int .i64 dl, .slice A n c]).alloc _
  have h2 : Box ((w.alloc (.cells #[.string nm, .int .i64 dl, .slice A n c] 33)).alloc (.cells #[.int .i64 s.id, .string s.dn, .int .i64 s.st, .int .i64 s.ph, .int .i64 s.sp, .int .i64 s.tr, .bool s.out, .int .i64 s.at_, .int .i64 s.sk] 49)) (w.heap.size + 1) 49 s.arr := box_new2 w _ 49 s.arr
  exact ⟨h1.below h (by omega), h2.below h (by omega)⟩
theorem ds_below (w : World) (o o' : Obj) : Below w.heap.size w ((w.alloc o).alloc o') ∧ ((w.alloc o).alloc o').heap.size = w.heap.size + 2 :=
  ⟨((Below.refl _ w).alloc (Nat.le_refl _) _).alloc (by simp) _, by simp⟩
set_option maxRecDepth 100000 in
set_option maxHeartbeats 4000000 in
theorem eqI_saga (x y : Sg) (w : World) : (Op.equalIn 10000 49 (.agg x.arr) (.agg y.arr)).run Tryz.prog w = .ok (eqG x y) w := by
  rw [run_equalIn_struct w 9999 49 _ _ (by kernel_rfl) (by kernel_rfl)]
  unfold Sg.arr
  simp [Program.fieldsOf, Tryz.underlying49, Op.eqFields, go_sem]
  have hb : ∀ a b : ByteArray, (a.toList = b.toList) = (a = b) := fun a b => propext (by
    have := bytes_beq a b
    rw [Bool.eq_iff_iff, beq_iff_eq, decide_eq_true_eq] at this
    exact this)
  simp only [hb]
  unfold eqG
  repeat' split
  all_goals simp_all
set_option maxRecDepth 100000 in
set_option maxHeartbeats 4000000 in
theorem eqI_cmd (x y : Cm) (w : World) : (Op.equalIn 10000 37 (.agg x.arr) (.agg y.arr)).run Tryz.prog w = .ok (eqC x y) w := by
  rw [run_equalIn_struct w 9999 37 _ _ (by kernel_rfl) (by kernel_rfl)]
  unfold Cm.arr
  simp [Program.fieldsOf, Tryz.underlying37, Op.eqFields, go_sem]
  have hb : ∀ a b : ByteArray, (a.toList = b.toList) = (a = b) := fun a b => propext (by
    have := bytes_beq a b
    rw [Bool.eq_iff_iff, beq_iff_eq, decide_eq_true_eq] at this
    exact this)
  simp only [hb]
  unfold eqC
  repeat' split
  all_goals simp_all
theorem eql_saga (x y : Sg) (w : World) : (binOp .eql 49 (.agg x.arr) (.agg y.arr)).run Tryz.prog w = .ok (.bool (eqG x y)) w := by
  rw [run_eql_struct, eqI_saga]
  rfl
theorem neq_saga (x y : Sg) (w : World) : (binOp .neq 49 (.agg x.arr) (.agg y.arr)).run Tryz.prog w = .ok (.bool (!eqG x y)) w := by
  rw [run_neq_struct, eqI_saga]
  rfl
theorem eql_cmd (x y : Cm) (w : World) : (binOp .eql 37 (.agg x.arr) (.agg y.arr)).run Tryz.prog w = .ok (.bool (eqC x y)) w := by
  rw [run_eql_struct, eqI_cmd]
  rfl
theorem neq_cmd (x y : Cm) (w : World) : (binOp .neq 37 (.agg x.arr) (.agg y.arr)).run Tryz.prog w = .ok (.bool (!eqC x y)) w := by
  rw [run_neq_struct, eqI_cmd]
  rfl
theorem guard_saga (op : BinOp) (a b : Operand) (xs ys : Array Value) (w : World) : (eqGuard op 49 a b (.agg xs) (.agg ys)).run Tryz.prog w = .ok () w := run_eqGuard_agg w op 49 a b xs ys (by kernel_rfl)
theorem guard_cmd (op : BinOp) (a b : Operand) (xs ys : Array Value) (w : World) : (eqGuard op 37 a b (.agg xs) (.agg ys)).run Tryz.prog w = .ok () w := run_eqGuard_agg w op 37 a b xs ys (by kernel_rfl)

/-! ### Results that lie in blocks -/
theorem sizeG (s : Sg) : (Tryz.prog.info? 49).map (·.size) = some s.arr.size := by
  show (Tryz.prog.info? 49).map (·.size) = some 9
  kernel_rfl
theorem sizeC (c : Cm) : (Tryz.prog.info? 37).map (·.size) = some c.arr.size := by
  show (Tryz.prog.info? 37).map (·.size) = some 6
  kernel_rfl
theorem oneG (s : Sg) : s.arr.all (·.oneCell') = true := by simp [Sg.arr, Value.oneCell']
theorem oneC (c : Cm) : c.arr.all (·.oneCell') = true := by simp [Cm.arr, Value.oneCell']
theorem box_row {w : World} {g : Nat} {t : TypeId} {cs : Array Value} (h : Box w g t cs) (cs' : Array Value) : Box (w.setRow g cs') g t cs' := by
  unfold Box at h ⊢
  simp [World.setRow, Array.getElem?_modify, h]
/-- a block, whatever its cells are: a struct of so many is stored there -/
def Slot (w : World) (g : Nat) (t : TypeId) (k : Nat) : Prop := ∃ cs : Array Value, Box w g t cs ∧ cs.size = k
theorem Box.slot {w : World} {g : Nat} {t : TypeId} {cs : Array Value} {k : Nat} (h : Box w g t cs) (hs : cs.size = k) : Slot w g t k := ⟨cs, h, hs⟩
theorem Slot.lt {w : World} {g : Nat} {t : TypeId} {k : Nat} (h : Slot w g t k) : g < w.heap.size := by
  obtain ⟨cs, h, _⟩ := h
  exact h.lt
theorem Slot.below {w w' : World} {g B : Nat} {t : TypeId} {k : Nat} (h : Slot w g t k) (hb : Below B w w') (hg : g < B) : Slot w' g t k := by
  obtain ⟨cs, h, hs⟩ := h
  exact ⟨cs, h.below hb hg, hs⟩
theorem Slot.row {w : World} {g : Nat} {t : TypeId} {k : Nat} (h : Slot w g t k) (cs' : Array Value) : Box (w.setRow g cs') g t cs' := by
  obtain ⟨cs, h, hs⟩ := h
  exact box_row h cs'
theorem res_sg {fn : Func} {p : Tmp} (h : fn.results = #[.cell p 49]) (tmps : Array Value) (w : World) (g : Nat) (s : Sg) (hp : tmps.getD p undef = .pointer (some ⟨g, 0, none⟩)) (hg : Box w g 49 s.arr) :
    (results fn tmps).run Tryz.prog w = .ok (.agg s.arr) w := results_cell_row h tmps w g 49 s.arr (0, 0) _ hp hg Tryz.underlying49 rfl (sizeG s)
theorem res_sg_tmp {fn : Func} {p u : Tmp} (h : fn.results = #[.cell p 49, .tmp u]) (tmps : Array Value) (w : World) (g : Nat) (s : Sg)
    (hp : tmps.getD p undef = .pointer (some ⟨g, 0, none⟩)) (hg : Box w g 49 s.arr) :
    (results fn tmps).run Tryz.prog w = .ok (.tuple #[.agg s.arr, tmps.getD u undef]) w := by
  rw [results_cell_tmp h, hp]
  simp only [asAddr, Sem.run_pure, Result.andThen_ok, run_loadVar_row w g _ 49 _ _ _ hg Tryz.underlying49 rfl (sizeG s)]
theorem results_cct {fn : Func} {p q u : Tmp} {ty ty' : TypeId} (h : fn.results = #[.cell p ty, .cell q ty', .tmp u]) (tmps : Array Value) (P : Program) (w : World) :
    (results fn tmps).run P w =
      ((asAddr (tmps.getD p undef)).run P w).andThen fun a w₁ => ((loadVar ty a).run P w₁).andThen fun v w₂ => ((asAddr (tmps.getD q undef)).run P w₂).andThen fun b w₃ => ((loadVar ty' b).run P w₃).andThen fun x w₄ => .ok (.tuple #[v, x, tmps.getD u undef]) w₄ := by
  simp only [results, h]
  simp [Sem.run_bind, Result.andThen]
  repeat' (split; · rfl)
  all_goals rfl
theorem res_sg_cm_tmp {fn : Func} {p q u : Tmp} (h : fn.results = #[.cell p 49, .cell q 37, .tmp u]) (tmps : Array Value) (w : World) (g g' : Nat) (s : Sg) (c : Cm)
    (hp : tmps.getD p undef = .pointer (some ⟨g, 0, none⟩)) (hq : tmps.getD q undef = .pointer (some ⟨g', 0, none⟩)) (hg : Box w g 49 s.arr) (hg' : Box w g' 37 c.arr) :
    (results fn tmps).run Tryz.prog w = .ok (.tuple #[.agg s.arr, .agg c.arr, tmps.getD u undef]) w := by
  rw [results_cct h, hp, hq]
  simp only [asAddr, Sem.run_pure, Result.andThen_ok, run_loadVar_row w g _ 49 _ _ _ hg Tryz.underlying49 rfl (sizeG s), run_loadVar_row w g' _ 37 _ _ _ hg' Tryz.underlying37 rfl (sizeC c)]
theorem below_row {B : Nat} {w wr : World} (h : Below B w wr) {g : Nat} (hg : B ≤ g) (cs : Array Value) : Below B w (wr.setRow g cs) := below_putRow h hg cs
end Go.Proofs.YteejocnogpaifaaGreatDoor.Sa
/-
  What the functions of package saga answer that only turn a saga's fields: Over, accepted, ended, atWork, ahead, turned, done; and the document's own ones.
  Conditions: none.
-/
namespace Go.Proofs.YteejocnogpaifaaGreatDoor.Sa
open Go.RowKit Go.Sort
open Go.Proofs.YteejocnogpaifaaGreatDoor.Bo (P Made ret_int ret_bool)
open Go.Proofs.YteejocnogpaifaaGreatDoor.Df

theorem two_made {w w' : World} {o : Obj} {t : TypeId} {cs : Array Value} (h : Made ((w.alloc o).alloc (.cells cs t)) w') : Slot w' (w.heap.size + 1) t cs.size ∧ Made w w' :=
  ⟨(Box.slot (box_new2 w o t cs) rfl).below h.below (box_new2 w o t cs).lt, ((Made.alloc _ _).trans (Made.alloc _ _)).trans h⟩
theorem three_made {w w' : World} {o o' : Obj} {t : TypeId} {cs : Array Value} (h : Made (((w.alloc o).alloc o').alloc (.cells cs t)) w') : Slot w' (w.heap.size + 2) t cs.size ∧ Made w w' :=
  ⟨(Box.slot (box_new3 w o o' t cs) rfl).below h.below (box_new3 w o o' t cs).lt, (((Made.alloc _ _).trans (Made.alloc _ _)).trans (Made.alloc _ _)).trans h⟩
/-- a call has made blocks, and written into those alone -/
theorem made_row {w w' : World} (h : Made w w') {g : Nat} (hg : w.heap.size ≤ g) (cs : Array Value) : Below w.heap.size w (w'.setRow g cs) := below_row h.below hg cs
set_option maxHeartbeats 400000 in
theorem over_any (s : Sg) (w : World) : Calls Tryz.prog 47 #[.agg #[.int .i64 s.id, .string s.dn, .int .i64 s.st, .int .i64 s.ph, .int .i64 s.sp, .int .i64 s.tr, .bool s.out, .int .i64 s.at_, .int .i64 s.sk]] w fun e w' => e = .returned (.bool (overB s)) ∧ Made w w' := by
  go_enter Tryz.func47, Tryz.ntmps47
  go_wp2
  all_goals
    go_ret
    refine ⟨ret_bool ?_, Made.alloc _ _⟩
    unfold overB
    rw [Bool.eq_iff_iff]
    simp_all
    try omega
set_option maxHeartbeats 400000 in
theorem ended_any (s : Sg) (ph : Int) (w : World) : Calls Tryz.prog 114 #[.agg #[.int .i64 s.id, .string s.dn, .int .i64 s.st, .int .i64 s.ph, .int .i64 s.sp, .int .i64 s.tr, .bool s.out, .int .i64 s.at_, .int .i64 s.sk], .int .i64 ph] w fun e w' => e = .returned (.agg (endS s ph).arr) ∧ Made w w' := by
  go_enter Tryz.func114, Tryz.ntmps114
  go_wp2
  refine bodyPost_ret (res_sg rfl _ _ (w.heap.size + 1) (endS s ph) rfl ?_) rfl ⟨rfl, ?_⟩
  · exact box_new2 w _ _ _
  · exact (Made.alloc _ _).trans (Made.alloc _ _)
set_option maxHeartbeats 400000 in
theorem atWork_any (s : Sg) (ph sp now : Int) (w : World) : Calls Tryz.prog 113 #[.agg #[.int .i64 s.id, .string s.dn, .int .i64 s.st, .int .i64 s.ph, .int .i64 s.sp, .int .i64 s.tr, .bool s.out, .int .i64 s.at_, .int .i64 s.sk], .int .i64 ph, .int .i64 sp, .int .i64 now] w fun e w' => e = .returned (.agg (putS s ph sp now).arr) ∧ Made w w' := by
  go_enter Tryz.func113, Tryz.ntmps113
  go_wp2
  refine bodyPost_ret (res_sg rfl _ _ (w.heap.size + 1) (putS s ph sp now) rfl ?_) rfl ⟨rfl, ?_⟩
  · exact box_new2 w _ _ _
  · exact (Made.alloc _ _).trans (Made.alloc _ _)
/-- blocks that a call has laid: a definition, a saga -/
structure Ed (w w' : World) (nm : ByteArray) (dl : Int) (A : Option Addr) (n c : Nat) (s : Sg) : Prop where
  d : Box w' w.heap.size 33 #[.string nm, .int .i64 dl, .slice A n c]
  s : Box w' (w.heap.size + 1) 49 s.arr
  b : Below w.heap.size w w'
section
variable {w w' w2 : World} {nm : ByteArray} {dl : Int} {A : Option Addr} {n c : Nat} {s : Sg}
theorem Ed.on (h : Ed w w' nm dl A n c s) (hb : Below w'.heap.size w' w2) : Ed w w2 nm dl A n c s := ⟨h.d.below hb h.d.lt, h.s.below hb h.s.lt, h.b.trans (hb.mono h.b.size)⟩
theorem ed2 (h : Below ((w.alloc (.cells #[.string nm, .int .i64 dl, .slice A n c] 33)).alloc (.cells #[.int .i64 s.id, .string s.dn, .int .i64 s.st, .int .i64 s.ph, .int .i64 s.sp, .int .i64 s.tr, .bool s.out, .int .i64 s.at_, .int .i64 s.sk] 49)).heap.size ((w.alloc (.cells #[.string nm, .int .i64 dl, .slice A n c] 33)).alloc (.cells #[.int .i64 s.id, .string s.dn, .int .i64 s.st, .int .i64 s.ph, .int .i64 s.sp, .int .i64 s.tr, .bool s.out, .int .i64 s.at_, .int .i64 s.sk] 49)) w') : Ed w w' nm dl A n c s :=
  Ed.on ⟨(Box.new w 33 #[.string nm, .int .i64 dl, .slice A n c]).alloc _, box_new2 w _ 49 s.arr, (ds_below w _ _).1⟩ h
theorem ed3 {t : TypeId} {cs : Array Value} (h : Below (((w.alloc (.cells #[.string nm, .int .i64 dl, .slice A n c] 33)).alloc (.cells #[.int .i64 s.id, .string s.dn, .int .i64 s.st, .int .i64 s.ph, .int .i64 s.sp, .int .i64 s.tr, .bool s.out, .int .i64 s.at_, .int .i64 s.sk] 49)).alloc (.cells cs t)).heap.size (((w.alloc (.cells #[.string nm, .int .i64 dl, .slice A n c] 33)).alloc (.cells #[.int .i64 s.id, .string s.dn, .int .i64 s.st, .int .i64 s.ph, .int .i64 s.sp, .int .i64 s.tr, .bool s.out, .int .i64 s.at_, .int .i64 s.sk] 49)).alloc (.cells cs t)) w') : Ed w w' nm dl A n c s ∧ Slot w' (w.heap.size + 2) t cs.size :=
  ⟨Ed.on (Ed.on (ed2 (Below.refl _ _)) ((Below.refl _ _).alloc (Nat.le_refl _) _)) h, (Box.slot (box_new3 w _ _ t cs) rfl).below h (box_new3 w _ _ t cs).lt⟩
theorem Ed.cd (h : Ed w w' nm dl A n c s) : w'.cell? ⟨w.heap.size, 0, none⟩ = some (.string nm) ∧ w'.cell? ⟨w.heap.size, 1, none⟩ = some (.int .i64 dl) ∧ w'.cell? ⟨w.heap.size, 2, none⟩ = some (.slice A n c) := dfcells h.d
theorem Ed.cs (h : Ed w w' nm dl A n c s) : w'.cell? ⟨w.heap.size + 1, 0, none⟩ = some (.int .i64 s.id) ∧ w'.cell? ⟨w.heap.size + 1, 1, none⟩ = some (.string s.dn) ∧ w'.cell? ⟨w.heap.size + 1, 2, none⟩ = some (.int .i64 s.st) ∧ w'.cell? ⟨w.heap.size + 1, 3, none⟩ = some (.int .i64 s.ph) ∧ w'.cell? ⟨w.heap.size + 1, 4, none⟩ = some (.int .i64 s.sp) ∧
    w'.cell? ⟨w.heap.size + 1, 5, none⟩ = some (.int .i64 s.tr) ∧ w'.cell? ⟨w.heap.size + 1, 6, none⟩ = some (.bool s.out) ∧ w'.cell? ⟨w.heap.size + 1, 7, none⟩ = some (.int .i64 s.at_) ∧ w'.cell? ⟨w.heap.size + 1, 8, none⟩ = some (.int .i64 s.sk) := sgcells h.s
end
theorem slot_on {w w' : World} {g : Nat} {t : TypeId} {k : Nat} (h : Slot w g t k) (hb : Below w.heap.size w w') : Slot w' g t k := h.below hb h.lt
set_option maxHeartbeats 1000000 in
theorem ahead_any (s : Sg) (last now : Int) (hs : 0 ≤ s.sp ∧ s.sp ≤ 9223372036854775807) (w : World) : Calls Tryz.prog 125 #[.agg #[.int .i64 s.id, .string s.dn, .int .i64 s.st, .int .i64 s.ph, .int .i64 s.sp, .int .i64 s.tr, .bool s.out, .int .i64 s.at_, .int .i64 s.sk], .int .i64 last, .int .i64 now] w fun e w' => e = .returned (.agg (aheadS s last now).arr) ∧ Below w.heap.size w w' := by
  have HE := Lib.hid (ended_any s last)
  have HP := Lib.hid (atWork_any s 1 (s.sp - 1) now)
  by_cases h : s.sp = 0
  · have ha : aheadS s last now = endS s last := by unfold aheadS; rw [if_pos h]
    have hb : (s.sp == 0) = true := by simpa using h
    rw [ha]
    clear ha h
    go_enter Tryz.func125, Tryz.ntmps125
    go_wp2_with (first
      | (go_at_call 114; (with_reducible refine (HE.out _).mono ?_); rintro e w1 ⟨rfl, hm⟩; have HM := Lib.hid (two_made hm); clear hm)
      | (obtain ⟨cs, hcs, hsz⟩ := HM.out.1; refine wpList_store_row rfl 49 (.tmp 6) (.tmp 12) rfl (w.heap.size + 1) 49 cs (endS s last).arr rfl rfl hcs (sizeG _) hsz (oneG _) ?_))
    exact bodyPost_ret (res_sg rfl _ _ (w.heap.size + 1) (endS s last) rfl (box_row hcs _)) rfl ⟨rfl, made_row HM.out.2 (by omega) _⟩
  · have ha : aheadS s last now = putS s 1 (s.sp - 1) now := by unfold aheadS; rw [if_neg h]
    have hb : (s.sp == 0) = false := by simpa using h
    rw [ha]
    clear ha h
    go_enter Tryz.func125, Tryz.ntmps125
    go_wp2_with (first
      | (go_at_call 113; (with_reducible refine (HP.out _).mono ?_); rintro e w1 ⟨rfl, hm⟩; have HM := Lib.hid (two_made hm); clear hm)
      | (obtain ⟨cs, hcs, hsz⟩ := HM.out.1; refine wpList_store_row rfl 49 (.tmp 6) (.tmp 18) rfl (w.heap.size + 1) 49 cs (putS s 1 (s.sp - 1) now).arr rfl rfl hcs (sizeG _) hsz (oneG _) ?_))
    exact bodyPost_ret (res_sg rfl _ _ (w.heap.size + 1) (putS s 1 (s.sp - 1) now) rfl (box_row hcs _)) rfl ⟨rfl, made_row HM.out.2 (by omega) _⟩
end Go.Proofs.YteejocnogpaifaaGreatDoor.Sa
/-
  What accepted of package saga answers.
  Conditions: none.
-/
namespace Go.Proofs.YteejocnogpaifaaGreatDoor.Sa
open Go.RowKit Go.Sort
open Go.Proofs.YteejocnogpaifaaGreatDoor.Bo (P Made ret_int ret_bool)
open Go.Proofs.YteejocnogpaifaaGreatDoor.Df

set_option maxHeartbeats 1000000 in
theorem accepted_any (s : Sg) (r : Rp) (w : World) : Calls Tryz.prog 107 #[.agg #[.int .i64 s.id, .string s.dn, .int .i64 s.st, .int .i64 s.ph, .int .i64 s.sp, .int .i64 s.tr, .bool s.out, .int .i64 s.at_, .int .i64 s.sk], .agg #[.int .i64 r.sg, .int .i64 r.sp, .bool r.un, .int .i64 r.tr, .bool r.good]] w fun e w' => e = .returned (.bool (accB s r)) ∧ Made w w' := by
  unfold accB
  cases r.un <;> cases r.good <;> cases s.out
  all_goals
    go_enter Tryz.func107, Tryz.ntmps107
    go_wp2
    all_goals
      go_ret
      refine ⟨ret_bool ?_, (Made.alloc _ _).trans (Made.alloc _ _)⟩
      first
        | rfl
        | (rw [Bool.eq_iff_iff]; first | done | (simp_all; done) | (simp_all; omega))
end Go.Proofs.YteejocnogpaifaaGreatDoor.Sa
