/-
  What Key answers: a command's key.
  Conditions: the steps lie in memory; the library's table of powers of ten holds what its text lays; names are of moderate length; the saga's number fits Go's int.
-/
import Derived.Test.YteejocnogpaifaaGreatDoorDefEnd
import Derived.Test.YteejocnogpaifaaGreatDoorLabRunes
import Derived.Lib.AppendIntMem
import Derived.RegionTactic
import Derived.Deep.RegionHeld3
import Derived.Lib.ItoaLen
namespace Go.Proofs.YteejocnogpaifaaGreatDoor.Df
open Go.RowKit
open Go.Proofs.YteejocnogpaifaaGreatDoor.El
open Go.Lib (decDigits)
open Go.Proofs.YteejocnogpaifaaGreatDoor.Bo (P Made ret_int ret_bool)

abbrev Tab (w : World) : Prop := Lib.TabIs Tryz.prog w "internal/strconv.uint64pow10" .u64 Lib.pow10Tab
theorem tab_below {w w' : World} (h : Tab w) (hb : Below w.heap.size w w') : Tab w' := Lib.tabBelow_of_tabIs h _ hb
theorem itoa_nat {n : Int} (h : 0 ≤ n) : Lib.itoa n = decDigits n.toNat := by unfold Lib.itoa; rw [if_neg (by omega)]
theorem itoa_any (n : Int) (w : World) (hT : Tab w) (h0 : 0 ≤ n) (h1 : n ≤ 9223372036854775807) : Calls Tryz.prog 124 #[.int .i64 n] w fun e w' => e = .returned (.string ⟨(decDigits n.toNat).toArray⟩) ∧ Below w.heap.size w w' := by
  refine (Tryz.strconv_Itoa n (by omega) h1 w hT).mono ?_
  rintro e w' ⟨rfl, k, os, rfl⟩
  rw [itoa_nat h0]
  exact ⟨rfl, Lib.below_grow _ _ (Nat.le_refl _) _ _⟩
theorem dec_size (n : Nat) (h : n < 18446744073709551616) : (decDigits n).length ≤ 20 := by
  rw [Go.Lib.decDigits_length]
  exact Go.Lib.nDigits_le20 n h
/-- a command's key -/
def keyL (saga step : Int) (ss : List Stp) (u : Bool) : List UInt8 :=
  if saga < 0 ∨ step < 0 then [] else match ss[step.toNat]? with
    | none => []
    | some s => decDigits saga.toNat ++ 47 :: (s.nm.data.toList ++ 47 :: way u)
theorem keyL_neg {saga step : Int} {ss : List Stp} {u : Bool} (h : saga < 0 ∨ step < 0) : keyL saga step ss u = [] := by unfold keyL; rw [if_pos h]
theorem keyL_far {saga : Int} {k : Nat} {ss : List Stp} {u : Bool} (h : ss.length ≤ k) : keyL saga (k : Int) ss u = [] := by
  unfold keyL
  split
  · rfl
  · rw [Int.toNat_natCast, List.getElem?_eq_none h]
theorem keyL_at {saga : Int} {k : Nat} {ss : List Stp} {u : Bool} {s : Stp} (h0 : 0 ≤ saga) (h : ss[k]? = some s) : keyL saga (k : Int) ss u = decDigits saga.toNat ++ 47 :: (s.nm.data.toList ++ 47 :: way u) := by
  unfold keyL
  rw [if_neg (by omega), Int.toNat_natCast, h]
theorem join3 (a b c : List UInt8) : Lib.join [a, b, c] [47] = a ++ 47 :: (b ++ 47 :: c) := by
  rw [Lib.join_cons]
  simp [Lib.joinTail]
/-- strings.Join of three texts that a call has laid -/
theorem join_any (a b c : ByteArray) (w u : World) (B : Nat) (hb : Below B w u) (hB : B ≤ u.heap.size) (hs : a.size ≤ 1000000000 ∧ b.size ≤ 1000000000 ∧ c.size ≤ 1000000000) :
    Calls Tryz.prog 123 #[.slice (some ⟨u.heap.size, 0, none⟩) 3 3, .string ⟨#[47]⟩] (u.alloc (.cells #[.string a, .string b, .string c] 9)) fun e w' =>
      e = .returned (.string ⟨(a.data.toList ++ 47 :: (b.data.toList ++ 47 :: c.data.toList)).toArray⟩) ∧ Below B w w' := by
  have hx := Box.new u 9 #[.string a, .string b, .string c]
  have h := Tryz.strings_Join u.heap.size 0 3 [a, b, c] ⟨#[47]⟩ (u.alloc (.cells #[.string a, .string b, .string c] 9)) (fun j x hj => by
    rw [Nat.zero_add, hx.cell j]
    match j, hj with
    | 0, hj => simp at hj; subst hj; rfl
    | 1, hj => simp at hj; subst hj; rfl
    | 2, hj => simp at hj; subst hj; rfl) (by simp) (by simp) (by simp) (by
      have e : Lib.join ([a, b, c].map (·.data.toList)) (ByteArray.mk #[47]).data.toList = _ := join3 a.data.toList b.data.toList c.data.toList
      rw [e]
      simp only [List.length_append, List.length_cons, len_is]
      omega)
  have e : Lib.join ([a, b, c].map (·.data.toList)) (ByteArray.mk #[47]).data.toList = _ := join3 a.data.toList b.data.toList c.data.toList
  rw [e] at h
  refine Calls.mono h ?_
  rintro e w' ⟨rfl, hb'⟩
  exact ⟨rfl, (hb.alloc hB _).trans (hb'.mono (by simp; omega))⟩
def wayS : Bool → ByteArray
  | true => ⟨#[117, 110, 100, 111]⟩
  | false => ⟨#[100, 111]⟩
theorem wayS_is (u : Bool) : (wayS u).data.toList = way u := by cases u <;> rfl
set_option maxRecDepth 100000 in
set_option maxHeartbeats 4000000 in
theorem key_any (saga : Int) (nm : ByteArray) (dl : Int) (A : Option Addr) (c : Nat) (ss : List Stp) (n : Nat) (step : Int) (un : Bool) (w : World) (hn : n = ss.length) (hnm : ∀ s ∈ ss, s.nm.size ≤ 1000000) (hS : Steps w w.heap.size A ss) (hT : Tab w) (hg : saga ≤ 9223372036854775807) :
    Calls Tryz.prog 106 #[.int .i64 saga, .agg #[.string nm, .int .i64 dl, .slice A n c], .int .i64 step, .bool un] w fun e w' => e = .returned (.string ⟨(keyL saga step ss un).toArray⟩) ∧ Below w.heap.size w w' := by
  have hB := (Below.refl w.heap.size w).alloc (Nat.le_refl _) (.cells #[.string nm, .int .i64 dl, .slice A n c] 33)
  have HB := Lib.hid hB
  by_cases h1 : saga < 0
  · rw [keyL_neg (.inl h1)]
    clear hS hT hn hnm hB
    go_enter Tryz.func106, Tryz.ntmps106
    go_wp2
    go_ret
    exact ⟨rfl, HB.out⟩
  by_cases h2 : step < 0
  · rw [keyL_neg (.inr h2)]
    clear hS hT hn hnm hB
    go_enter Tryz.func106, Tryz.ntmps106
    go_wp2
    go_ret
    exact ⟨rfl, HB.out⟩
  obtain ⟨k, rfl⟩ : ∃ k : Nat, step = (k : Int) := ⟨step.toNat, by omega⟩
  by_cases h3 : n ≤ k
  · rw [keyL_far (by omega)]
    have h3' : (n : Int) ≤ (k : Int) := by omega
    clear hS hT hn hnm hB
    go_enter Tryz.func106, Tryz.ntmps106
    go_wp2
    go_ret
    exact ⟨rfl, HB.out⟩
  have hkn : k < n := by omega
  have h3' : ¬ (n : Int) ≤ (k : Int) := by omega
  obtain ⟨x, hx⟩ : ∃ x, ss[k]? = some x := ⟨_, List.getElem?_eq_getElem (by omega)⟩
  obtain ⟨b, o, rfl, hbl⟩ := hS.at_ hx
  have hxs := hnm x (List.mem_of_getElem? hx)
  rw [keyL_at (by omega) hx]
  have hs0 : (w.alloc (.cells #[.string nm, .int .i64 dl, .slice (some ⟨b, o, none⟩) n c] 33)).heap.size = w.heap.size + 1 := by simp
  have c2 : ∀ u, Below (w.heap.size + 1) (w.alloc (.cells #[.string nm, .int .i64 dl, .slice (some ⟨b, o, none⟩) n c] 33)) u → u.cell? ⟨w.heap.size, 2, none⟩ = some (.slice (some ⟨b, o, none⟩) n c) := fun u hu => ((Box.new w 33 _).below hu (by omega)).cell 2
  have cn : ∀ u, Below (w.heap.size + 1) (w.alloc (.cells #[.string nm, .int .i64 dl, .slice (some ⟨b, o, none⟩) n c] 33)) u → u.cell? ⟨b, o + k * 12, none⟩ = some (.string x.nm) := fun u hu => ((hS.below hB).below (hu.mono (by omega))).get hx 0 rfl
  have HI : Hid (∀ u, Below (w.heap.size + 1) (w.alloc (.cells #[.string nm, .int .i64 dl, .slice (some ⟨b, o, none⟩) n c] 33)) u → Calls Tryz.prog 124 #[.int .i64 saga] u fun e w' => e = .returned (.string ⟨(decDigits saga.toNat).toArray⟩) ∧ Below (w.heap.size + 1) (w.alloc (.cells #[.string nm, .int .i64 dl, .slice (some ⟨b, o, none⟩) n c] 33)) w') :=
    Lib.hid fun u hu => (itoa_any saga u (tab_below hT (hB.trans (hu.mono (by omega)))) (by omega) hg).mono fun e w' ⟨h1, h2⟩ => ⟨h1, hu.trans (h2.mono (by have := hu.size; omega))⟩
  have HJ : Hid (∀ u, Below (w.heap.size + 1) (w.alloc (.cells #[.string nm, .int .i64 dl, .slice (some ⟨b, o, none⟩) n c] 33)) u → Calls Tryz.prog 123 #[.slice (some ⟨u.heap.size, 0, none⟩) 3 3, .string ⟨#[47]⟩] (u.alloc (.cells #[.string ⟨(decDigits saga.toNat).toArray⟩, .string x.nm, .string (wayS un)] 9)) fun e w' =>
      e = .returned (.string ⟨(decDigits saga.toNat ++ 47 :: (x.nm.data.toList ++ 47 :: way un)).toArray⟩) ∧ Below (w.heap.size + 1) (w.alloc (.cells #[.string nm, .int .i64 dl, .slice (some ⟨b, o, none⟩) n c] 33)) w') :=
    Lib.hid fun u hu => by
      have h := join_any ⟨(decDigits saga.toNat).toArray⟩ x.nm (wayS un) _ u (w.heap.size + 1) hu (by have := hu.size; omega) ⟨by
        show (decDigits saga.toNat).toArray.size ≤ _
        rw [List.size_toArray]
        have := dec_size saga.toNat (by omega)
        omega, by omega, by cases un <;> decide⟩
      rw [wayS_is] at h
      simpa using h
  clear hS hT hn hnm hx
  cases un
  all_goals
    unfold wayS at HJ
    go_enter Tryz.func106, Tryz.ntmps106
    go_wp2
    generalize w.alloc _ = W0 at *
    go_region_held3 (fun u => Below (w.heap.size + 1) W0 u) (first | exact Below.refl _ _ | exact Below.drew (Below.refl _ _) | assumption | exact Below.alloc hw' (by have := hw'.size; omega) _)
      (first
        | (go_at_call 124; (with_reducible refine (HI.out _ ?_).mono ?_); (first | assumption | exact Below.drew (Below.refl _ _)); rintro e w' ⟨rfl, hw'⟩)
        | (go_at_call 123; (with_reducible refine (HJ.out _ ?_).mono ?_); (first | assumption | exact Below.drew (Below.refl _ _)); rintro e w2 ⟨rfl, hw2⟩))
    all_goals
      go_wp2
      go_ret
      exact ⟨rfl, HB.out.trans (hw2.mono (by omega))⟩
end Go.Proofs.YteejocnogpaifaaGreatDoor.Df
