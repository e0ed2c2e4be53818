/-
  What the program's Name and Number answer: a segment's name, and the number that a text tells.
  Conditions: the library's table of powers of ten holds what its text lays; the text has at most 2^40 bytes.
-/
import Derived.Test.YtohnhboeipckjaaGreatDoorWalMath
import Derived.Test.YtohnhboeipckjaaGreatDoorLabCalls
import Derived.Test.YtohnhboeipckjaaGreatDoorStoCalls
import Derived.Lib.OthersKept
import Derived.Lib.AppendIntMem
import Derived.Lib.Hide
namespace Go.Proofs.YtohnhboeipckjaaGreatDoor
open Go.RowKit

/-- the table is there, whatever is done that leaves the blocks of X -/
def Tab (w : World) (X : Nat → Prop) : Prop := ∀ w', Keep X w w' → Lib.TabIs Tryz.prog w' "internal/strconv.uint64pow10" .u64 Lib.pow10Tab
theorem Tab.on {w w' : World} {X Y : Nat → Prop} (h : Tab w X) (hk : Keep X w w') (hY : ∀ i, X i → Y i) : Tab w' Y := fun w2 h2 => h w2 (hk.trans (h2.mono hY))
theorem Tab.here {w : World} {X : Nat → Prop} (h : Tab w X) : Lib.TabIs Tryz.prog w "internal/strconv.uint64pow10" .u64 Lib.pow10Tab := h w (Keep.refl _ _)
theorem Tab.below {w w' : World} {X : Nat → Prop} (h : Tab w X) (hb : Below w.heap.size w w') : Tab w' X := h.on (Keep.of_below hb) (fun _ h => h)
theorem Tab.more {w : World} {X Y : Nat → Prop} (h : Tab w X) (hY : ∀ i, X i → Y i) : Tab w Y := h.on (Keep.refl _ _) hY
theorem Tab.of {w : World} (h : Lib.TabIs Tryz.prog w "internal/strconv.uint64pow10" .u64 Lib.pow10Tab) : Tab w (fun i => i < w.heap.size) := fun _ hk => Lib.tabBelow_of_tabIs h _ (hk.below (Nat.le_refl _) (fun _ h => h))

/-- what Name answers -/
def nameI (n : Int) : List UInt8 := if 1 ≤ n ∧ n ≤ 1073741824 then segL n.toNat else []
theorem nameI_ok {n : Nat} (h : okN n) : nameI (n : Int) = segL n := by unfold nameI; rw [if_pos ⟨by have := h.1; omega, by have := h.2; omega⟩]; simp
theorem itoa_nat {n : Int} (h : 0 ≤ n) : Lib.itoa n = Lib.decDigits n.toNat := by unfold Lib.itoa; rw [if_neg (by omega)]

set_option maxRecDepth 100000 in
set_option maxHeartbeats 1000000 in
theorem name_any (n : Int) (X : Nat → Prop) (w : World) (hT : Tab w X) (h0 : -9223372036854775808 ≤ n) (h1 : n ≤ 9223372036854775807) :
    Calls Tryz.prog 18 #[.int .i64 n] w fun e w' => e = .returned (.string ⟨(nameI n).toArray⟩) ∧ Below w.heap.size w w' := by
  by_cases hn : n < 1
  · have e : nameI n = [] := by unfold nameI; rw [if_neg (by omega)]
    rw [e]
    clear e
    go_enter Tryz.func18, Tryz.ntmps18
    go_wp2
    go_ret
    exact ⟨rfl, Below.refl _ _⟩
  · by_cases hm : 1073741824 < n
    · have e : nameI n = [] := by unfold nameI; rw [if_neg (by omega)]
      rw [e]
      clear e
      go_enter Tryz.func18, Tryz.ntmps18
      go_wp2
      go_ret
      exact ⟨rfl, Below.refl _ _⟩
    · have e : (⟨(nameI n).toArray⟩ : ByteArray) = ⟨#[115]⟩ ++ ⟨(Lib.itoa n).toArray⟩ := by
        unfold nameI
        rw [if_pos (by omega), itoa_nat (by omega)]
        ext1
        simp [ByteArray.data_append, segL]
      have hl := Lib.itoa_length_le n h0 h1
      have hcat : ¬ 9223372036854775807 < (⟨#[115]⟩ : ByteArray).size + (⟨(Lib.itoa n).toArray⟩ : ByteArray).size := by
        show ¬ 9223372036854775807 < 1 + (Lib.itoa n).toArray.size
        rw [List.size_toArray]
        omega
      have HI := Lib.hid (Tryz.strconv_Itoa n h0 h1 w hT.here)
      rw [e]
      clear e hl hT
      go_enter Tryz.func18, Tryz.ntmps18
      go_wp2_with (go_at_call 39; (with_reducible refine HI.out.mono ?_); rintro e w1 ⟨rfl, k, os, rfl⟩)
      go_ret
      exact ⟨rfl, Lib.below_grow _ _ (Nat.le_refl _) _ _⟩

/-! ### Number -/
theorem rng_one {b : UInt8} {t : List UInt8} (h : b.toNat < 128) : rngI (b :: t) = (b.toNat : Int) := by unfold rngI; rw [dec_ascii h, if_neg (by simp)]
theorem wd_one {b : UInt8} {t : List UInt8} (h : b.toNat < 128) : wd (b :: t) = 1 := by unfold wd; rw [dec_ascii h]; rfl
theorem rng_big {b : UInt8} {t : List UInt8} (h : ¬ b.toNat < 128) : 128 ≤ rngI (b :: t) := by
  unfold rngI dec
  have h0 : byt (b :: t) 0 = b.toNat := rfl
  rw [h0]
  rcases d4_cases b.toNat (byt (b :: t) 1) (byt (b :: t) 2) (byt (b :: t) 3) with ⟨p, e⟩ | ⟨p, q, r, e⟩ | ⟨p, q, r, s, u, e⟩ | ⟨p, q, r, s, u, v, e⟩ | ⟨p, e⟩ <;> rw [e] <;> simp only
  · omega
  · rw [if_neg (by omega)]; omega
  · rw [if_neg (by omega)]; omega
  · rw [if_neg (by omega)]; omega
  · simp
/-- where the loop of Number stands -/
def NumRel (l : List UInt8) (pos acc : Nat) : Prop := acc ≤ 1073741824 ∧ ((pos = 0 ∧ acc = 0) ∨ (1 ≤ pos ∧ numL l = numD acc pos (l.drop pos)))
theorem num_nil : numL [] = 0 := rfl

set_option maxRecDepth 100000 in
set_option maxHeartbeats 4000000 in
theorem number_any (s : ByteArray) (w : World) (hs : s.size ≤ 1099511627776) :
    Calls Tryz.prog 22 #[.string s] w fun e w' => e = .returned (.int .i64 (numL s.data.toList : Int)) ∧ Below w.heap.size w w' := by
  go_enter Tryz.func22, Tryz.ntmps22
  go_wp2
  go_loopw [3] (fun n wr => ∃ (pos acc : Nat), n = .int .i64 acc ∧ wr.heap[w.heap.size]? = some (.stringIter s pos) ∧ Below w.heap.size w wr ∧ NumRel s.data.toList pos acc ∧ pos ≤ s.size) (fun _ wr => s.size - wr.iterPos w.heap.size)
  case atStart =>
    refine ⟨0, 0, rfl, ?_, (Below.refl _ w).alloc (Nat.le_refl _) _, ⟨by omega, .inl ⟨rfl, rfl⟩⟩, by omega⟩
    have := World.iter_heap w s 0
    simpa using this
  case round =>
    obtain ⟨pos, acc, rfl, hit, hbw, ⟨hacc, hrel⟩, hpos⟩ := hrel
    by_cases hp : pos < s.size
    · have hnx : ∀ ty, (Instr.next (.pointer (some ⟨w.heap.size, 0, none⟩)) true ty).run Tryz.prog wr = _ := fun ty => Lib.run_next_any_at wr w.heap.size s pos ty hit hp
      have hit2 := Lib.iterAt_heap wr w.heap.size s pos (pos + (Utf8.decode s pos).2) hit
      have hbw2 := Lib.below_iterAt hbw (k := w.heap.size) (Nat.le_refl _) s (pos + (Utf8.decode s pos).2)
      have hwd : (Utf8.decode s pos).2 = wd (s.data.toList.drop pos) := decode_wd s pos
      have hwp : 1 ≤ (Utf8.decode s pos).2 := by rw [hwd]; exact wd_pos _
      have hws : pos + (Utf8.decode s pos).2 ≤ s.size := by rw [hwd]; exact wd_size hp
      have hpl : pos < s.data.toList.length := by rw [Array.length_toList]; exact hp
      have hr := rng_eq s pos
      have hdc := List.drop_eq_getElem_cons hpl
      obtain ⟨b, hb⟩ : ∃ b, b = s.data.toList[pos] := ⟨_, rfl⟩
      rw [← hb] at hdc
      rw [hdc] at hr hwd
      obtain ⟨r, hre⟩ : ∃ r : Int, r = ((Utf8.decode s pos).1 : Int) := ⟨_, rfl⟩
      rw [← hre] at hr
      simp only [← hre] at hnx
      have hbig : ¬ b.toNat < 128 → 128 ≤ r := fun h => by rw [hr]; exact rng_big h
      have hone : b.toNat < 128 → r = b.toNat ∧ (Utf8.decode s pos).2 = 1 := fun h => ⟨by rw [hr]; exact rng_one h, by rw [hwd]; exact wd_one h⟩
      have hlo : 0 ≤ r := by rw [hr]; exact rngI_lo _
      have hhi : r ≤ 1114111 := by rw [hr]; exact rngI_hi _
      clear hr hre hwd
      generalize (Utf8.decode s pos).2 = wid at *
      by_cases hz : pos = 0
      · have z1 : ((pos : Int) == 0) = true := by simpa using hz
        have hnum : numL s.data.toList = if b ≠ 115 then 0 else numD 0 1 (s.data.toList.drop 1) := by
          have h1 : s.data.toList = b :: s.data.toList.drop 1 := by
            rw [hz] at hdc
            simpa using hdc
          conv => lhs; rw [h1]
          rfl
        have hac0 : acc = 0 := by rcases hrel with ⟨_, h⟩ | ⟨h, _⟩ <;> omega
        by_cases h115 : b = 115
        · have hb128 : b.toNat < 128 := by rw [h115]; decide
          obtain ⟨hr1, hw1⟩ := hone hb128
          have hr2 : r = 115 := by rw [hr1, h115]; rfl
          have HN := Lib.hid (show numL s.data.toList = numD 0 1 (s.data.toList.drop 1) by rw [hnum, if_neg (by simpa using h115)])
          have HW := Lib.hid hw1
          have HZ := Lib.hid hz
          have HA := Lib.hid hac0
          subst hr2
          clear hnum h115 hb128 hr1 hw1 hbig hone hrel hdc hb hz hac0
          go_wp2
          go_roundw
          case rel => exact ⟨pos + wid, acc, rfl, hit2, hbw2, ⟨hacc, .inr ⟨by omega, by rw [HZ.out, HW.out, HA.out]; exact HN.out⟩⟩, hws⟩
          case measure =>
            simp only [World.iterPos, hit2, hit]
            omega
        · have hr2 : (r != 115) = true := by
            have : r ≠ 115 := fun e => by
              by_cases h128 : b.toNat < 128
              · have := (hone h128).1
                have h2 : b.toNat = 115 := by omega
                exact h115 (UInt8.toNat_inj.1 (by rw [h2]; rfl))
              · have := hbig h128
                omega
            simpa using this
          have HN := Lib.hid (show numL s.data.toList = 0 by rw [hnum, if_pos h115])
          clear hnum h115 hbig hone hrel hdc hb hz hac0
          go_wp2
          go_ret
          exact ⟨ret_int (by rw [HN.out]; rfl), hbw2⟩
      · have z1 : ((pos : Int) == 0) = false := by simpa using hz
        have hnum : numL s.data.toList = numD acc pos (b :: s.data.toList.drop (pos + 1)) := by
          rcases hrel with ⟨h, _⟩ | ⟨_, h⟩
          · exact absurd h hz
          · rw [h, hdc]
        rw [numD] at hnum
        by_cases hbad : b.toNat < 48 ∨ 57 < b.toNat ∨ (pos = 1 ∧ b.toNat = 48)
        · rw [if_pos hbad] at hnum
          have HN := Lib.hid hnum
          have hr2 : r < 48 ∨ 57 < r ∨ (pos = 1 ∧ r = 48) := by
            by_cases h128 : b.toNat < 128
            · have := (hone h128).1
              omega
            · have := hbig h128
              omega
          clear hnum hbig hone hrel hdc hb hbad
          rcases hr2 with hr2 | hr2 | ⟨hp1, hr2⟩
          · go_wp2
            go_ret
            exact ⟨ret_int (by rw [HN.out]; rfl), hbw2⟩
          · have hr3 : ¬ r < 48 := by omega
            go_wp2
            go_ret
            exact ⟨ret_int (by rw [HN.out]; rfl), hbw2⟩
          · have z2 : ((pos : Int) == 1) = true := by simp; omega
            subst hr2
            clear hp1
            go_wp2
            go_ret
            exact ⟨ret_int (by rw [HN.out]; rfl), hbw2⟩
        · rw [if_neg hbad] at hnum
          have h128 : b.toNat < 128 := by omega
          obtain ⟨hr1, hw1⟩ := hone h128
          have hr3 : ¬ r < 48 := by omega
          have hr4 : ¬ 57 < r := by omega
          have hd : r - 48 = ((b.toNat - 48 : Nat) : Int) := by omega
          obtain ⟨d, hde⟩ : ∃ d, d = b.toNat - 48 := ⟨_, rfl⟩
          rw [← hde] at hd hnum
          have hd9 : d ≤ 9 := by omega
          obtain rfl : r = (d : Int) + 48 := by omega
          have hz2 : pos ≠ 1 ∨ d ≠ 0 := by omega
          have HW := Lib.hid hw1
          have HH : Hid (1073741824 < 10 * acc + d → numL s.data.toList = 0) := Lib.hid fun h => by rw [hnum, if_pos h]
          have HG : Hid (¬ 1073741824 < 10 * acc + d → numL s.data.toList = numD (10 * acc + d) (pos + 1) (s.data.toList.drop (pos + 1))) := Lib.hid fun h => by rw [hnum, if_neg h]
          have hs48 : (d : Int) + 48 - 48 = d := by omega
          clear hnum hbig hone hrel hdc hb hbad h128 hr1 hw1 hd hde
          by_cases hp1 : pos = 1
          · have z2 : ((pos : Int) == 1) = true := by simp; omega
            have z3 : (((d : Int) + 48) == 48) = false := by simp; omega
            by_cases hbg : 1073741824 < 10 * acc + d
            · have hN := HH.out hbg
              have HN := Lib.hid hN
              have hb1 : (1073741824 : Int) < 10 * (acc : Int) + d := by omega
              clear hN HH HG hbg hp1 hz2
              go_wp2
              go_ret
              exact ⟨ret_int (by rw [HN.out]; rfl), hbw2⟩
            · have HN := Lib.hid (HG.out hbg)
              have hb1 : ¬ (1073741824 : Int) < 10 * (acc : Int) + d := by omega
              have HP := Lib.hid hp1
              clear HH HG hp1 hz2
              go_wp2
              go_roundw
              case rel => exact ⟨pos + wid, 10 * acc + d, by go_num, hit2, hbw2, ⟨by omega, .inr ⟨by omega, by rw [HW.out]; exact HN.out⟩⟩, hws⟩
              case measure =>
                simp only [World.iterPos, hit2, hit]
                omega
          · have z2 : ((pos : Int) == 1) = false := by simp; omega
            by_cases hbg : 1073741824 < 10 * acc + d
            · have hN := HH.out hbg
              have HN := Lib.hid hN
              have hb1 : (1073741824 : Int) < 10 * (acc : Int) + d := by omega
              clear hN HH HG hbg hp1 hz2
              go_wp2
              go_ret
              exact ⟨ret_int (by rw [HN.out]; rfl), hbw2⟩
            · have HN := Lib.hid (HG.out hbg)
              have hb1 : ¬ (1073741824 : Int) < 10 * (acc : Int) + d := by omega
              clear HH HG hp1 hz2
              go_wp2
              go_roundw
              case rel => exact ⟨pos + wid, 10 * acc + d, by go_num, hit2, hbw2, ⟨by omega, .inr ⟨by omega, by rw [HW.out]; exact HN.out⟩⟩, hws⟩
              case measure =>
                simp only [World.iterPos, hit2, hit]
                omega
    · have hnx : ∀ ty, (Instr.next (.pointer (some ⟨w.heap.size, 0, none⟩)) true ty).run Tryz.prog wr = _ := fun ty => Lib.run_next_end_at wr w.heap.size s pos ty hit hp
      have he : s.data.toList.drop pos = [] := List.drop_eq_nil_of_le (by rw [Array.length_toList]; show s.size ≤ pos; omega)
      have HN : Hid (numL s.data.toList = acc) := Lib.hid (by
        rcases hrel with ⟨h1, h2⟩ | ⟨_, h⟩
        · rw [h1] at he
          rw [show s.data.toList = [] from he, h2]
          rfl
        · rw [h, he]
          rfl)
      clear he hrel
      go_wp2
      go_ret
      exact ⟨ret_int (by rw [HN.out]), hbw⟩
end Go.Proofs.YtohnhboeipckjaaGreatDoor
