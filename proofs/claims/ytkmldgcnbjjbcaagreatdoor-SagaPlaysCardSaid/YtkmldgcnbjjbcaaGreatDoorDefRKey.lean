/-
  What the document's own Decimal and Key answer: the digits of a number, a command's key.
  Conditions: the steps lie in memory; names are of moderate length; the saga's number fits Go's int.
-/
import Derived.Test.YtkmldgcnbjjbcaaGreatDoorDefKey
import Derived.BigQuiet
import Derived.Deep.QuietTactic
namespace Go.Proofs.YtkmldgcnbjjbcaaGreatDoor.Df
open Go.RowKit
open Go.Proofs.YtkmldgcnbjjbcaaGreatDoor.El
open Go.Lib (decDigits)
open Go.Proofs.YtkmldgcnbjjbcaaGreatDoor.Bo (P Made ret_int ret_bool)

def digB (m : Nat) : UInt8 := UInt8.ofNat (48 + m % 10)
theorem digB_nat (m : Nat) : (digB m).toNat = 48 + m % 10 := dig_nat (Nat.mod_lt _ (by decide))
theorem dig_text (w : World) (m : Nat) : (convert 94 9 (.slice (some ⟨w.heap.size, 0, none⟩) 1 1)).run Tryz.prog (w.alloc (.cells #[.int .u8 (48 + (m : Int) % 10)] 5)) = .ok (.string ⟨#[digB m]⟩) (w.alloc (.cells #[.int .u8 (48 + (m : Int) % 10)] 5)) := by
  have hb : Byt (w.alloc (.cells #[.int .u8 (48 + (m : Int) % 10)] 5)) (w.alloc (.cells #[.int .u8 (48 + (m : Int) % 10)] 5)).heap.size (some ⟨w.heap.size, 0, none⟩) [digB m] := fun _ => by
    refine ⟨w.heap.size, 0, rfl, by simp, fun k hk => ?_⟩
    obtain rfl : k = 0 := by simpa using hk
    rw [Nat.zero_add, (Box.new w 5 _).cell 0]
    show some (Value.int .u8 (48 + (m : Int) % 10)) = some (.int .u8 ((digB m).toNat : Int))
    rw [digB_nat]
    congr 2
  exact hb.text _ _ _ Tryz.underlying94 Tryz.underlying5 Tryz.underlying9 1
set_option maxRecDepth 100000 in
set_option maxHeartbeats 4000000 in
theorem decimal_any (m0 : Nat) (w : World) (h1 : m0 ≤ 9223372036854775807) :
    Calls Tryz.prog 71 #[.int .i64 (m0 : Int)] w fun e w' => e = .returned (.string ⟨(decDigits m0).toArray⟩) ∧ Below w.heap.size w w' := by
  go_enter Tryz.func71, Tryz.ntmps71
  go_wp2
  go_loopw [0, 3] (fun vn vs wr => ∃ (m : Nat) (l : List UInt8), vn = .int .i64 (m : Int) ∧ vs = .string ⟨l.toArray⟩ ∧ m ≤ m0 ∧ Below w.heap.size w wr ∧ Hid (decDigits m0 = decDigits m ++ l)) (fun vn _ _ => (intOf vn).toNat)
  case atStart => exact ⟨m0, [], rfl, rfl, Nat.le_refl _, Below.refl _ _, Lib.hid (by simp)⟩
  case round =>
    obtain ⟨m, l, rfl, rfl, hm, hbw, HD⟩ := hrel
    have hcv : (convert 94 9 (.slice (some ⟨wr.heap.size, 0, none⟩) 1 1)).run Tryz.prog (wr.alloc (.cells #[.int .u8 (48 + (m : Int) % 10)] 5)) = .ok (.string ⟨#[digB m]⟩) (wr.alloc (.cells #[.int .u8 (48 + (m : Int) % 10)] 5)) := dig_text wr m
    have hl := dec_size m0 (by omega)
    rw [HD.out, List.length_append] at hl
    have hln : ¬ 9223372036854775807 < (ByteArray.mk #[digB m]).size + (ByteArray.mk l.toArray).size := by
      show ¬ 9223372036854775807 < 1 + l.toArray.size
      rw [List.size_toArray]
      omega
    have HC : Hid ((ByteArray.mk #[digB m]) ++ (ByteArray.mk l.toArray) = ⟨(digB m :: l).toArray⟩) := Lib.hid (by
      ext1
      simp [ByteArray.data_append])
    by_cases h9 : m < 10
    · have HE : Hid (decDigits m0 = digB m :: l) := Lib.hid (by
        rw [HD.out, Go.Lib.decDigits_one h9]
        show UInt8.ofNat (48 + m) :: l = UInt8.ofNat (48 + m % 10) :: l
        rw [Nat.mod_eq_of_lt h9])
      have hz : ((m : Int) / 10 == 0) = true := by simp; omega
      go_wp2
      go_ret
      refine ⟨?_, hbw.alloc hbw.size _⟩
      show Ending.returned (.string _) = _
      rw [HC.out, HE.out]
    · have HE : Hid (decDigits m0 = decDigits (m / 10) ++ digB m :: l) := Lib.hid (by
        rw [HD.out, dec_big h9, List.append_assoc]
        rfl)
      have hz : ((m : Int) / 10 == 0) = false := by simp; omega
      go_wp2
      go_roundw
      case rel => exact ⟨m / 10, digB m :: l, by rw [show ((m : Int) / 10) = ((m / 10 : Nat) : Int) by omega], by rw [HC.out], by omega, hbw.alloc hbw.size _, HE⟩
      case measure => simp only [intOf]; omega
/-! ### Key -/
theorem key_text (d nm : ByteArray) (un : Bool) : ((d ++ ⟨#[47]⟩) ++ nm) ++ (if un = true then ⟨#[47, 117, 110, 100, 111]⟩ else ⟨#[47, 100, 111]⟩) = ⟨(d.data.toList ++ 47 :: (nm.data.toList ++ 47 :: way un)).toArray⟩ := by
  cases un
  all_goals
    ext1
    simp [ByteArray.data_append, way]
set_option maxRecDepth 100000 in
set_option maxHeartbeats 4000000 in
theorem rkey_any (saga : Int) (nm : ByteArray) (dl : Int) (A : Option Addr) (c : Nat) (ss : List Stp) (n : Nat) (step : Int) (un : Bool) (w : World) (hn : n = ss.length) (hnm : ∀ s ∈ ss, s.nm.size ≤ 1000000) (hS : Steps w w.heap.size A ss) (hg : saga ≤ 9223372036854775807) :
    Calls Tryz.prog 52 #[.int .i64 saga, .agg #[.string nm, .int .i64 dl, .slice A n c], .int .i64 step, .bool un] w fun e w' => e = .returned (.string ⟨(keyL saga step ss un).toArray⟩) ∧ Below w.heap.size w w' := by
  have hB := (Below.refl w.heap.size w).alloc (Nat.le_refl _) (.cells #[.string nm, .int .i64 dl, .slice A n c] 24)
  have HB := Lib.hid hB
  by_cases h1 : saga < 0
  · rw [keyL_neg (.inl h1)]
    clear hS hn hnm hB
    go_enter Tryz.func52, Tryz.ntmps52
    go_wp2
    go_ret
    exact ⟨rfl, HB.out⟩
  by_cases h2 : step < 0
  · rw [keyL_neg (.inr h2)]
    clear hS hn hnm hB
    go_enter Tryz.func52, Tryz.ntmps52
    go_wp2
    go_ret
    exact ⟨rfl, HB.out⟩
  obtain ⟨k, rfl⟩ : ∃ k : Nat, step = (k : Int) := ⟨step.toNat, by omega⟩
  by_cases h3 : n ≤ k
  · rw [keyL_far (by omega)]
    have h3' : (n : Int) ≤ (k : Int) := by omega
    clear hS hn hnm hB
    go_enter Tryz.func52, Tryz.ntmps52
    go_wp2
    go_ret
    exact ⟨rfl, HB.out⟩
  have hkn : k < n := by omega
  have h3' : ¬ (n : Int) ≤ (k : Int) := by omega
  obtain ⟨x, hx⟩ : ∃ x, ss[k]? = some x := ⟨_, List.getElem?_eq_getElem (by omega)⟩
  obtain ⟨b, o, rfl, hbl⟩ := hS.at_ hx
  have hxs := hnm x (List.mem_of_getElem? hx)
  rw [keyL_at (by omega) hx]
  obtain ⟨m0, rfl⟩ : ∃ m0 : Nat, saga = (m0 : Int) := ⟨saga.toNat, by omega⟩
  rw [Int.toNat_natCast]
  have hs0 : (w.alloc (.cells #[.string nm, .int .i64 dl, .slice (some ⟨b, o, none⟩) n c] 24)).heap.size = w.heap.size + 1 := by simp
  have c2 : ∀ u, Below (w.heap.size + 1) (w.alloc (.cells #[.string nm, .int .i64 dl, .slice (some ⟨b, o, none⟩) n c] 24)) u → u.cell? ⟨w.heap.size, 2, none⟩ = some (.slice (some ⟨b, o, none⟩) n c) := fun u hu => ((Box.new w 24 _).below hu (by omega)).cell 2
  have cn : ∀ u, Below (w.heap.size + 1) (w.alloc (.cells #[.string nm, .int .i64 dl, .slice (some ⟨b, o, none⟩) n c] 24)) u → u.cell? ⟨b, o + k * 12, none⟩ = some (.string x.nm) := fun u hu => ((hS.below hB).below (hu.mono (by omega))).get hx 0 rfl
  obtain ⟨d, hd⟩ : ∃ d : ByteArray, d = ⟨(decDigits m0).toArray⟩ := ⟨_, rfl⟩
  have HI : Hid (∀ u, Below (w.heap.size + 1) (w.alloc (.cells #[.string nm, .int .i64 dl, .slice (some ⟨b, o, none⟩) n c] 24)) u → Calls Tryz.prog 71 #[.int .i64 (m0 : Int)] u fun e w' => e = .returned (.string d) ∧ Below (w.heap.size + 1) (w.alloc (.cells #[.string nm, .int .i64 dl, .slice (some ⟨b, o, none⟩) n c] 24)) w') :=
    Lib.hid fun u hu => (decimal_any m0 u (by omega)).mono fun e w' ⟨h1, h2⟩ => ⟨by rw [hd]; exact h1, hu.trans (h2.mono (by have := hu.size; omega))⟩
  have hds : d.size ≤ 20 := by
    have h : d.size = (decDigits m0).length := by
      rw [hd]
      show (decDigits m0).toArray.size = _
      exact List.size_toArray
    rw [h]
    exact dec_size m0 (by omega)
  have hT := key_text d x.nm un
  rw [show d.data.toList = decDigits m0 by rw [hd]] at hT
  have HT := Lib.hid hT
  have q1 : ¬ 9223372036854775807 < d.size + (ByteArray.mk #[47]).size := by show ¬ _ < d.size + 1; omega
  have q2 : ¬ 9223372036854775807 < d.size + (ByteArray.mk #[47]).size + x.nm.size := by show ¬ _ < d.size + 1 + _; omega
  have q3 : ¬ 9223372036854775807 < d.size + (ByteArray.mk #[47]).size + x.nm.size + (ByteArray.mk #[47, 117, 110, 100, 111]).size := by show ¬ _ < d.size + 1 + _ + 5; omega
  have q4 : ¬ 9223372036854775807 < d.size + (ByteArray.mk #[47]).size + x.nm.size + (ByteArray.mk #[47, 100, 111]).size := by show ¬ _ < d.size + 1 + _ + 3; omega
  have r1 : ¬ 9223372036854775807 < d.size + 1 := by omega
  have r2 : ¬ 9223372036854775807 < d.size + 1 + x.nm.size := by omega
  clear hS hn hnm hx hd hT
  cases un
  all_goals
    go_enter Tryz.func52, Tryz.ntmps52
    go_wp2
    generalize w.alloc _ = W0 at *
    go_region_held3 (fun u => Below (w.heap.size + 1) W0 u) (first | exact Below.refl _ _ | exact Below.drew (Below.refl _ _) | assumption)
      (first
        | (go_at_call 71; (with_reducible refine (HI.out _ ?_).mono ?_); (first | assumption | exact Below.drew (Below.refl _ _)); rintro e w' ⟨rfl, hw'⟩))
    all_goals
      go_wp2
      go_ret
      exact ⟨by rw [← HT.out]; rfl, HB.out.trans (hw'.mono (by omega))⟩
end Go.Proofs.YtkmldgcnbjjbcaaGreatDoor.Df
