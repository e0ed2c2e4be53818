/-
  The document's own lines of commands and replies.
  Conditions: names and keys of moderate length.
-/
import Derived.Test.YtllpjfbcjcnpcaaDoorWirRef
namespace Go.Proofs.YtllpjfbcjcnpcaaDoor.Wi
open Go.RowKit
open Go.Proofs.YtllpjfbcjcnpcaaDoor.El
open Go.Proofs.YtllpjfbcjcnpcaaDoor.Df
open Go.Lib (decDigits)

set_option maxRecDepth 100000 in
set_option maxHeartbeats 4000000 in
theorem rcommandLine_any (c : Cm) (w : World) (hc : Good c) (hp : c.pt.size ≤ 1000000) (hk : c.ky.size ≤ 1000000) :
    Calls Tryd.prog 13 #[.agg #[.int .i64 c.sg, .int .i64 c.st, .bool c.un, .int .i64 c.tr, .string c.pt, .string c.ky]] w fun e w' => e = .returned (.string (tx (lineL c))) ∧ Below w.heap.size w w' := by
  have HB0 := Lib.hid ((Below.refl w.heap.size w).alloc (Nat.le_refl _) (.cells #[.int .i64 c.sg, .int .i64 c.st, .bool c.un, .int .i64 c.tr, .string c.pt, .string c.ky] 23))
  have HX := Lib.hid (Box.new w 23 #[.int .i64 c.sg, .int .i64 c.st, .bool c.un, .int .i64 c.tr, .string c.pt, .string c.ky])
  have hlt := HX.out.lt
  obtain ⟨d1, hd1⟩ : ∃ x, x = tx (dg c.sg) := ⟨_, rfl⟩
  obtain ⟨d2, hd2⟩ : ∃ x, x = tx (dg c.st) := ⟨_, rfl⟩
  obtain ⟨d3, hd3⟩ : ∃ x, x = tx (dg c.tr) := ⟨_, rfl⟩
  obtain ⟨wy, hwy⟩ : ∃ x, x = tx (32 :: way c.un ++ [32]) := ⟨_, rfl⟩
  have s1 : d1.size ≤ 20 := by rw [hd1, tx_size]; exact dg_size (by have := hc.1.2; omega)
  have s2 : d2.size ≤ 20 := by rw [hd2, tx_size]; exact dg_size (by have := hc.2.1.2; omega)
  have s3 : d3.size ≤ 20 := by rw [hd3, tx_size]; exact dg_size (by have := hc.2.2.1.2; omega)
  have s4 : wy.size ≤ 6 := by
    rw [hwy, tx_size]
    have := way_len c.un
    simp only [List.length_append, List.length_cons, List.length_nil]
    omega
  have HT : Hid (((((((((((ByteArray.mk #[115, 101, 110, 100, 32]) ++ d1) ++ (ByteArray.mk #[32])) ++ d2) ++ wy) ++ d3) ++ (ByteArray.mk #[32])) ++ c.pt) ++ (ByteArray.mk #[32])) ++ c.ky) = tx (lineL c)) := Lib.hid (by
    apply ByteArray.ext
    rw [hd1, hd2, hd3, hwy]
    apply Array.toList_inj.1
    simp [lineL, tx, ByteArray.data_append])
  have HD1 : Hid (∀ u, Calls Tryd.prog 29 #[.int .i64 c.sg] u fun e w' => e = .returned (.string d1) ∧ Below u.heap.size u w') := Lib.hid fun u => by
    have h := decimal_any c.sg.toNat u (by have := hc.1.2; omega)
    rw [show ((c.sg.toNat : Nat) : Int) = c.sg from Int.toNat_of_nonneg hc.1.1] at h
    rw [hd1]
    exact h
  have HD2 : Hid (∀ u, Calls Tryd.prog 29 #[.int .i64 c.st] u fun e w' => e = .returned (.string d2) ∧ Below u.heap.size u w') := Lib.hid fun u => by
    have h := decimal_any c.st.toNat u (by have := hc.2.1.2; omega)
    rw [show ((c.st.toNat : Nat) : Int) = c.st from Int.toNat_of_nonneg hc.2.1.1] at h
    rw [hd2]
    exact h
  have HD3 : Hid (∀ u, Calls Tryd.prog 29 #[.int .i64 c.tr] u fun e w' => e = .returned (.string d3) ∧ Below u.heap.size u w') := Lib.hid fun u => by
    have h := decimal_any c.tr.toNat u (by have := hc.2.2.1.2; omega)
    rw [show ((c.tr.toNat : Nat) : Int) = c.tr from Int.toNat_of_nonneg hc.2.2.1.1] at h
    rw [hd3]
    exact h
  have HW := Lib.hid (rway_any c.un)
  rw [← hwy] at HW
  generalize tx (lineL c) = R at *
  have r0 : ¬ 9223372036854775807 < 5 + d1.size := by omega
  have q0 : ¬ 9223372036854775807 < (ByteArray.mk #[115, 101, 110, 100, 32]).size + d1.size := by show ¬ 9223372036854775807 < 5 + d1.size; omega
  have r1 : ¬ 9223372036854775807 < 5 + d1.size + 1 := by omega
  have q1 : ¬ 9223372036854775807 < (ByteArray.mk #[115, 101, 110, 100, 32]).size + d1.size + (ByteArray.mk #[32]).size := by show ¬ 9223372036854775807 < 5 + d1.size + 1; omega
  have r2 : ¬ 9223372036854775807 < 5 + d1.size + 1 + d2.size := by omega
  have q2 : ¬ 9223372036854775807 < (ByteArray.mk #[115, 101, 110, 100, 32]).size + d1.size + (ByteArray.mk #[32]).size + d2.size := by show ¬ 9223372036854775807 < 5 + d1.size + 1 + d2.size; omega
  have r3 : ¬ 9223372036854775807 < 5 + d1.size + 1 + d2.size + wy.size := by omega
  have q3 : ¬ 9223372036854775807 < (ByteArray.mk #[115, 101, 110, 100, 32]).size + d1.size + (ByteArray.mk #[32]).size + d2.size + wy.size := by show ¬ 9223372036854775807 < 5 + d1.size + 1 + d2.size + wy.size; omega
  have r4 : ¬ 9223372036854775807 < 5 + d1.size + 1 + d2.size + wy.size + d3.size := by omega
  have q4 : ¬ 9223372036854775807 < (ByteArray.mk #[115, 101, 110, 100, 32]).size + d1.size + (ByteArray.mk #[32]).size + d2.size + wy.size + d3.size := by show ¬ 9223372036854775807 < 5 + d1.size + 1 + d2.size + wy.size + d3.size; omega
  have r5 : ¬ 9223372036854775807 < 5 + d1.size + 1 + d2.size + wy.size + d3.size + 1 := by omega
  have q5 : ¬ 9223372036854775807 < (ByteArray.mk #[115, 101, 110, 100, 32]).size + d1.size + (ByteArray.mk #[32]).size + d2.size + wy.size + d3.size + (ByteArray.mk #[32]).size := by show ¬ 9223372036854775807 < 5 + d1.size + 1 + d2.size + wy.size + d3.size + 1; omega
  have r6 : ¬ 9223372036854775807 < 5 + d1.size + 1 + d2.size + wy.size + d3.size + 1 + c.pt.size := by omega
  have q6 : ¬ 9223372036854775807 < (ByteArray.mk #[115, 101, 110, 100, 32]).size + d1.size + (ByteArray.mk #[32]).size + d2.size + wy.size + d3.size + (ByteArray.mk #[32]).size + c.pt.size := by show ¬ 9223372036854775807 < 5 + d1.size + 1 + d2.size + wy.size + d3.size + 1 + c.pt.size; omega
  have r7 : ¬ 9223372036854775807 < 5 + d1.size + 1 + d2.size + wy.size + d3.size + 1 + c.pt.size + 1 := by omega
  have q7 : ¬ 9223372036854775807 < (ByteArray.mk #[115, 101, 110, 100, 32]).size + d1.size + (ByteArray.mk #[32]).size + d2.size + wy.size + d3.size + (ByteArray.mk #[32]).size + c.pt.size + (ByteArray.mk #[32]).size := by show ¬ 9223372036854775807 < 5 + d1.size + 1 + d2.size + wy.size + d3.size + 1 + c.pt.size + 1; omega
  have r8 : ¬ 9223372036854775807 < 5 + d1.size + 1 + d2.size + wy.size + d3.size + 1 + c.pt.size + 1 + c.ky.size := by omega
  have q8 : ¬ 9223372036854775807 < (ByteArray.mk #[115, 101, 110, 100, 32]).size + d1.size + (ByteArray.mk #[32]).size + d2.size + wy.size + d3.size + (ByteArray.mk #[32]).size + c.pt.size + (ByteArray.mk #[32]).size + c.ky.size := by show ¬ 9223372036854775807 < 5 + d1.size + 1 + d2.size + wy.size + d3.size + 1 + c.pt.size + 1 + c.ky.size; omega
  clear hc hp hk hd1 hd2 hd3 hwy s1 s2 s3 s4
  have ez : (w.alloc (.cells #[.int .i64 c.sg, .int .i64 c.st, .bool c.un, .int .i64 c.tr, .string c.pt, .string c.ky] 23)).heap.size = w.heap.size + 1 := by simp
  go_enter Tryd.func13, Tryd.ntmps13
  go_upto_region 1 with fail
  generalize w.alloc _ = W0 at *
  have k0 : ∀ u, Below W0.heap.size W0 u → u.cell? ⟨w.heap.size, 0, none⟩ = some (.int .i64 c.sg) := fun u hu => (HX.out.below hu hlt).cell 0
  have k1 : ∀ u, Below W0.heap.size W0 u → u.cell? ⟨w.heap.size, 1, none⟩ = some (.int .i64 c.st) := fun u hu => (HX.out.below hu hlt).cell 1
  have k2 : ∀ u, Below W0.heap.size W0 u → u.cell? ⟨w.heap.size, 2, none⟩ = some (.bool c.un) := fun u hu => (HX.out.below hu hlt).cell 2
  have k3 : ∀ u, Below W0.heap.size W0 u → u.cell? ⟨w.heap.size, 3, none⟩ = some (.int .i64 c.tr) := fun u hu => (HX.out.below hu hlt).cell 3
  have k4 : ∀ u, Below W0.heap.size W0 u → u.cell? ⟨w.heap.size, 4, none⟩ = some (.string c.pt) := fun u hu => (HX.out.below hu hlt).cell 4
  have k5 : ∀ u, Below W0.heap.size W0 u → u.cell? ⟨w.heap.size, 5, none⟩ = some (.string c.ky) := fun u hu => (HX.out.below hu hlt).cell 5
  have E1 : Hid (∀ u, Below W0.heap.size W0 u → Calls Tryd.prog 29 #[.int .i64 c.sg] u fun e w' => e = .returned (.string d1) ∧ Below W0.heap.size W0 w') := Lib.hid fun u hu => (HD1.out u).mono fun e w' ⟨h1, h2⟩ => ⟨h1, hu.trans (h2.mono hu.size)⟩
  have E2 : Hid (∀ u, Below W0.heap.size W0 u → Calls Tryd.prog 29 #[.int .i64 c.st] u fun e w' => e = .returned (.string d2) ∧ Below W0.heap.size W0 w') := Lib.hid fun u hu => (HD2.out u).mono fun e w' ⟨h1, h2⟩ => ⟨h1, hu.trans (h2.mono hu.size)⟩
  have E3 : Hid (∀ u, Below W0.heap.size W0 u → Calls Tryd.prog 29 #[.int .i64 c.tr] u fun e w' => e = .returned (.string d3) ∧ Below W0.heap.size W0 w') := Lib.hid fun u hu => (HD3.out u).mono fun e w' ⟨h1, h2⟩ => ⟨h1, hu.trans (h2.mono hu.size)⟩
  have E4 : Hid (∀ u, Below W0.heap.size W0 u → Calls Tryd.prog 30 #[.bool c.un] u fun e w' => e = .returned (.string wy) ∧ Below W0.heap.size W0 w') := Lib.hid fun u hu => (HW.out u).mono fun e w' ⟨h1, h2⟩ => ⟨h1, h2 ▸ hu⟩
  clear HD1 HD2 HD3 HW ez
  go_region_held3 (fun u => Below W0.heap.size W0 u) (first | exact Below.refl _ _ | exact Below.drew (Below.refl _ _) | assumption)
    (first
      | (go_at_call 29; (with_reducible refine (E1.out _ ?_).mono ?_); (first | assumption | exact Below.drew (Below.refl _ _) | exact Below.refl _ _); rintro e w' ⟨rfl, hw'⟩)
      | (go_at_call 29; (with_reducible refine (E2.out _ ?_).mono ?_); (first | assumption | exact Below.drew (Below.refl _ _) | exact Below.refl _ _); rintro e w' ⟨rfl, hw'⟩)
      | (go_at_call 29; (with_reducible refine (E3.out _ ?_).mono ?_); (first | assumption | exact Below.drew (Below.refl _ _) | exact Below.refl _ _); rintro e w' ⟨rfl, hw'⟩)
      | (go_at_call 30; (with_reducible refine (E4.out _ ?_).mono ?_); (first | assumption | exact Below.drew (Below.refl _ _) | exact Below.refl _ _); rintro e w' ⟨rfl, hw'⟩))
  all_goals
    go_wp2
    go_ret
    exact ⟨by rw [← HT.out]; rfl, HB0.out.trans (hw'.mono (Nat.le_of_lt hlt))⟩
set_option maxRecDepth 100000 in
set_option maxHeartbeats 4000000 in
theorem rreplyLine_any (c : Rp) (w : World) (hc : GoodR c) :
    Calls Tryd.prog 15 #[.agg #[.int .i64 c.sg, .int .i64 c.st, .bool c.un, .int .i64 c.tr, .bool c.gd]] w fun e w' => e = .returned (.string (tx (lineR c))) ∧ Below w.heap.size w w' := by
  have HB0 := Lib.hid ((Below.refl w.heap.size w).alloc (Nat.le_refl _) (.cells #[.int .i64 c.sg, .int .i64 c.st, .bool c.un, .int .i64 c.tr, .bool c.gd] 25))
  have HX := Lib.hid (Box.new w 25 #[.int .i64 c.sg, .int .i64 c.st, .bool c.un, .int .i64 c.tr, .bool c.gd])
  have hlt := HX.out.lt
  obtain ⟨d1, hd1⟩ : ∃ x, x = tx (dg c.sg) := ⟨_, rfl⟩
  obtain ⟨d2, hd2⟩ : ∃ x, x = tx (dg c.st) := ⟨_, rfl⟩
  obtain ⟨d3, hd3⟩ : ∃ x, x = tx (dg c.tr) := ⟨_, rfl⟩
  obtain ⟨wy, hwy⟩ : ∃ x, x = tx (32 :: way c.un ++ [32]) := ⟨_, rfl⟩
  have s1 : d1.size ≤ 20 := by rw [hd1, tx_size]; exact dg_size (by have := hc.1.2; omega)
  have s2 : d2.size ≤ 20 := by rw [hd2, tx_size]; exact dg_size (by have := hc.2.1.2; omega)
  have s3 : d3.size ≤ 20 := by rw [hd3, tx_size]; exact dg_size (by have := hc.2.2.2; omega)
  have s4 : wy.size ≤ 6 := by
    rw [hwy, tx_size]
    have := way_len c.un
    simp only [List.length_append, List.length_cons, List.length_nil]
    omega
  have HT : Hid ((((((((ByteArray.mk #[114, 101, 112, 108, 121, 32]) ++ d1) ++ (ByteArray.mk #[32])) ++ d2) ++ wy) ++ d3) ++ (if c.gd then ByteArray.mk #[32, 103, 111, 111, 100] else ByteArray.mk #[32, 98, 97, 100])) = tx (lineR c)) := Lib.hid (by
    apply ByteArray.ext
    rw [hd1, hd2, hd3, hwy]
    apply Array.toList_inj.1
    unfold lineR
    cases c.gd <;> simp [tx, how, ByteArray.data_append])
  have HD1 : Hid (∀ u, Calls Tryd.prog 29 #[.int .i64 c.sg] u fun e w' => e = .returned (.string d1) ∧ Below u.heap.size u w') := Lib.hid fun u => by
    have h := decimal_any c.sg.toNat u (by have := hc.1.2; omega)
    rw [show ((c.sg.toNat : Nat) : Int) = c.sg from Int.toNat_of_nonneg hc.1.1] at h
    rw [hd1]
    exact h
  have HD2 : Hid (∀ u, Calls Tryd.prog 29 #[.int .i64 c.st] u fun e w' => e = .returned (.string d2) ∧ Below u.heap.size u w') := Lib.hid fun u => by
    have h := decimal_any c.st.toNat u (by have := hc.2.1.2; omega)
    rw [show ((c.st.toNat : Nat) : Int) = c.st from Int.toNat_of_nonneg hc.2.1.1] at h
    rw [hd2]
    exact h
  have HD3 : Hid (∀ u, Calls Tryd.prog 29 #[.int .i64 c.tr] u fun e w' => e = .returned (.string d3) ∧ Below u.heap.size u w') := Lib.hid fun u => by
    have h := decimal_any c.tr.toNat u (by have := hc.2.2.2; omega)
    rw [show ((c.tr.toNat : Nat) : Int) = c.tr from Int.toNat_of_nonneg hc.2.2.1] at h
    rw [hd3]
    exact h
  have HW := Lib.hid (rway_any c.un)
  rw [← hwy] at HW
  generalize tx (lineR c) = R at *
  have r0 : ¬ 9223372036854775807 < 6 + d1.size := by omega
  have q0 : ¬ 9223372036854775807 < (ByteArray.mk #[114, 101, 112, 108, 121, 32]).size + d1.size := by show ¬ 9223372036854775807 < 6 + d1.size; omega
  have r1 : ¬ 9223372036854775807 < 6 + d1.size + 1 := by omega
  have q1 : ¬ 9223372036854775807 < (ByteArray.mk #[114, 101, 112, 108, 121, 32]).size + d1.size + (ByteArray.mk #[32]).size := by show ¬ 9223372036854775807 < 6 + d1.size + 1; omega
  have r2 : ¬ 9223372036854775807 < 6 + d1.size + 1 + d2.size := by omega
  have q2 : ¬ 9223372036854775807 < (ByteArray.mk #[114, 101, 112, 108, 121, 32]).size + d1.size + (ByteArray.mk #[32]).size + d2.size := by show ¬ 9223372036854775807 < 6 + d1.size + 1 + d2.size; omega
  have r3 : ¬ 9223372036854775807 < 6 + d1.size + 1 + d2.size + wy.size := by omega
  have q3 : ¬ 9223372036854775807 < (ByteArray.mk #[114, 101, 112, 108, 121, 32]).size + d1.size + (ByteArray.mk #[32]).size + d2.size + wy.size := by show ¬ 9223372036854775807 < 6 + d1.size + 1 + d2.size + wy.size; omega
  have r4 : ¬ 9223372036854775807 < 6 + d1.size + 1 + d2.size + wy.size + d3.size := by omega
  have q4 : ¬ 9223372036854775807 < (ByteArray.mk #[114, 101, 112, 108, 121, 32]).size + d1.size + (ByteArray.mk #[32]).size + d2.size + wy.size + d3.size := by show ¬ 9223372036854775807 < 6 + d1.size + 1 + d2.size + wy.size + d3.size; omega
  have r7 : ¬ 9223372036854775807 < 6 + d1.size + 1 + d2.size + wy.size + d3.size + 5 := by omega
  have r8 : ¬ 9223372036854775807 < 6 + d1.size + 1 + d2.size + wy.size + d3.size + 4 := by omega
  clear hc hd1 hd2 hd3 hwy s1 s2 s3 s4
  have ez : (w.alloc (.cells #[.int .i64 c.sg, .int .i64 c.st, .bool c.un, .int .i64 c.tr, .bool c.gd] 25)).heap.size = w.heap.size + 1 := by simp
  cases hgd : c.gd
  all_goals
    rw [hgd] at HX HB0 hlt ez HT
    go_enter Tryd.func15, Tryd.ntmps15
    go_upto_region 1 with fail
    generalize w.alloc _ = W0 at *
    have k0 : ∀ u, Below W0.heap.size W0 u → u.cell? ⟨w.heap.size, 0, none⟩ = some (.int .i64 c.sg) := fun u hu => (HX.out.below hu hlt).cell 0
    have k1 : ∀ u, Below W0.heap.size W0 u → u.cell? ⟨w.heap.size, 1, none⟩ = some (.int .i64 c.st) := fun u hu => (HX.out.below hu hlt).cell 1
    have k2 : ∀ u, Below W0.heap.size W0 u → u.cell? ⟨w.heap.size, 2, none⟩ = some (.bool c.un) := fun u hu => (HX.out.below hu hlt).cell 2
    have k3 : ∀ u, Below W0.heap.size W0 u → u.cell? ⟨w.heap.size, 3, none⟩ = some (.int .i64 c.tr) := fun u hu => (HX.out.below hu hlt).cell 3
    have E1 : Hid (∀ u, Below W0.heap.size W0 u → Calls Tryd.prog 29 #[.int .i64 c.sg] u fun e w' => e = .returned (.string d1) ∧ Below W0.heap.size W0 w') := Lib.hid fun u hu => (HD1.out u).mono fun e w' ⟨h1, h2⟩ => ⟨h1, hu.trans (h2.mono hu.size)⟩
    have E2 : Hid (∀ u, Below W0.heap.size W0 u → Calls Tryd.prog 29 #[.int .i64 c.st] u fun e w' => e = .returned (.string d2) ∧ Below W0.heap.size W0 w') := Lib.hid fun u hu => (HD2.out u).mono fun e w' ⟨h1, h2⟩ => ⟨h1, hu.trans (h2.mono hu.size)⟩
    have E3 : Hid (∀ u, Below W0.heap.size W0 u → Calls Tryd.prog 29 #[.int .i64 c.tr] u fun e w' => e = .returned (.string d3) ∧ Below W0.heap.size W0 w') := Lib.hid fun u hu => (HD3.out u).mono fun e w' ⟨h1, h2⟩ => ⟨h1, hu.trans (h2.mono hu.size)⟩
    have E4 : Hid (∀ u, Below W0.heap.size W0 u → Calls Tryd.prog 30 #[.bool c.un] u fun e w' => e = .returned (.string wy) ∧ Below W0.heap.size W0 w') := Lib.hid fun u hu => (HW.out u).mono fun e w' ⟨h1, h2⟩ => ⟨h1, h2 ▸ hu⟩
    clear HD1 HD2 HD3 HW ez
    go_region_held3 (fun u => Below W0.heap.size W0 u) (first | exact Below.refl _ _ | exact Below.drew (Below.refl _ _) | assumption)
      (first
        | (go_at_call 29; (with_reducible refine (E1.out _ ?_).mono ?_); (first | assumption | exact Below.drew (Below.refl _ _) | exact Below.refl _ _); rintro e w' ⟨rfl, hw'⟩)
        | (go_at_call 29; (with_reducible refine (E2.out _ ?_).mono ?_); (first | assumption | exact Below.drew (Below.refl _ _) | exact Below.refl _ _); rintro e w' ⟨rfl, hw'⟩)
        | (go_at_call 29; (with_reducible refine (E3.out _ ?_).mono ?_); (first | assumption | exact Below.drew (Below.refl _ _) | exact Below.refl _ _); rintro e w' ⟨rfl, hw'⟩)
        | (go_at_call 30; (with_reducible refine (E4.out _ ?_).mono ?_); (first | assumption | exact Below.drew (Below.refl _ _) | exact Below.refl _ _); rintro e w' ⟨rfl, hw'⟩))
    all_goals
      have c4 : w'.cell? ⟨w.heap.size, 4, none⟩ = some (.bool _) := (HX.out.below hw' hlt).cell 4
      go_wp2
      go_ret
      exact ⟨by rw [← HT.out]; rfl, HB0.out.trans (hw'.mono (Nat.le_of_lt hlt))⟩
end Go.Proofs.YtllpjfbcjcnpcaaDoor.Wi
