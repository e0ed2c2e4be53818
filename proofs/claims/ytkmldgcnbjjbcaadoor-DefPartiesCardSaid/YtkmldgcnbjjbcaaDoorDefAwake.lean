/-
  The statements' own awake: it answers true; what the rows of layer 13 list holds: the library's table of powers of ten.
  Conditions: the library's table of powers of ten holds what its text lays; the library's variable that SplitN's search reads holds some number.
-/
import Derived.Test.YtkmldgcnbjjbcaaDoorDefKey
import Derived.Test.YtkmldgcnbjjbcaaDoorDefCut
import Derived.Test.YtkmldgcnbjjbcaaDoorDefSmall
import Derived.Test.YtkmldgcnbjjbcaaDoorCards
import Derived.Test.YtkmldgcnbjjbcaaDoorTie
import Derived.Test.YtkmldgcnbjjbcaaDoorFrame
import Derived.Lib.LaidTab
import Derived.Stop.LaidErr
import Derived.ProofKit
import Derived.OpenShut
import Derived.ShutString
import Derived.LaidMore
import Derived.Lay
import Derived.Shelf.Vars
import Derived.Stop.Joined
namespace Go.Proofs.YtkmldgcnbjjbcaaDoor.Df
open Go.RowKit
open Go.Proofs.YtkmldgcnbjjbcaaDoor.El
open Go.Lib (decDigits)
open Go.Proofs.YtkmldgcnbjjbcaaDoor.Bo (P Made ret_int ret_bool)

theorem tab_of_laid {W : World} (h : laidMetH Tryd.prog Rows.defOwnsRow.laid W) : Tab W := by
  rw [MakeChecks.laidMetH_plain _ _ _ (by kernel_rfl)] at h
  have h2 := laidMet.tail (laidMet.tail h)
  have e : (Rows.laid_internal_strconv_uint64pow10 : DataW Unit) = Lib.tabData .u64 Lib.pow10Tab := by kernel_rfl
  rw [show (Rows.laid_internal_strconv_uint64pow10 : DataW Unit) = Lib.tabData .u64 Lib.pow10Tab from e] at h2
  exact Lib.tabIs_of_head (g := 1) (t := 140) (e := 132) (n := 20) (by kernel_rfl) (by kernel_rfl) Tryd.underlying140 Tryd.underlying132 (by kernel_rfl) (by kernel_rfl) h2
/-- the example -/
def payS : ByteArray := ⟨#[112, 97, 121]⟩
def pay : Stp := ⟨payS, ⟨#[]⟩, 0, ⟨0, 0, 0, 0⟩, ⟨0, 0, 0, 0⟩, 0⟩
def exKey : ByteArray := ⟨#[55, 47, 112, 97, 121, 47, 117, 110, 100, 111]⟩
theorem ex_dec : decDigits 7 = [55] := by rw [Go.Lib.decDigits_one (by omega)]; rfl
theorem ex_name : nameB payS.data.toList = true := by decide +kernel
theorem ex_of : KeyOf exKey.data.toList 7 payS.data.toList true := ⟨[55], ⟨ex_dec.symm, by decide⟩, ex_name, rfl⟩
theorem ex_cut (m : Int) (w : World) (hm : w.cell? ⟨0, 0, none⟩ = some (.int .i64 m)) :
    Calls Tryd.prog 20 #[.string exKey] w fun e w' => e = .returned (.tuple #[.int .i64 7, .string payS, .bool true, .bool true]) ∧ Below w.heap.size w w' := by
  refine (cut_any exKey m w (by decide) hm).mono ?_
  rintro e w' ⟨n, x, u, ok, rfl, hI, hb⟩
  obtain ⟨rfl, rfl, rfl, rfl⟩ := cut_uniq hI (.inl ⟨rfl, 7, rfl, ex_of⟩ : CutIs exKey.data.toList 7 payS true true)
  exact ⟨rfl, hb⟩
theorem ex_keyL : keyL 7 0 [pay] true = exKey.data.toList := by
  have h := keyL_at (saga := 7) (k := 0) (ss := [pay]) (u := true) (s := pay) (by omega) rfl
  rw [show (((0 : Nat)) : Int) = 0 from rfl, show ((7 : Int)).toNat = 7 from rfl, ex_dec] at h
  rw [h]
  rfl
theorem ex_steps (w : World) (w' : World) (h : Below (w.heap.size + 1) (w.alloc (.cells pay.arr 45)) w') : Steps w' w'.heap.size (some ⟨w.heap.size, 0, none⟩) [pay] := fun i s hs => by
  have hi : i = 0 := by have := at_lt hs; simpa using this
  subst hi
  simp only [List.getElem?_cons_zero, Option.some.injEq] at hs
  subst hs
  have hb := (Box.new w 45 pay.arr).below h (by omega)
  refine ⟨w.heap.size, 0, rfl, hb.lt, fun j u hu => ?_⟩
  rw [Nat.zero_mul, Nat.zero_add, hb.cell j, ← hu]
  simp [Stp.arr, Stp.cells]
theorem ex_key (w w' : World) (A : Nat) (hA : A = w.heap.size) (h : Below (w.heap.size + 1) (w.alloc (.cells pay.arr 45)) w') (hT : Tab w') :
    Calls Tryd.prog 19 #[.int .i64 7, .agg #[.string ⟨#[]⟩, .int .i64 0, .slice (some ⟨A, 0, none⟩) 1 1], .int .i64 0, .bool true] w' fun e w2 => e = .returned (.string exKey) ∧ Below w'.heap.size w' w2 := by
  subst hA
  have hk := key_any 7 ⟨#[]⟩ 0 (some ⟨w.heap.size, 0, none⟩) 1 [pay] 1 0 true w' rfl (fun s hs => by rw [List.mem_singleton.1 hs]; decide) (ex_steps w w' h) hT (by omega)
  rw [ex_keyL] at hk
  exact hk
set_option maxHeartbeats 2000000 in
set_option maxRecDepth 100000 in
theorem awake_any (m : Int) (w : World) (hm : w.cell? ⟨0, 0, none⟩ = some (.int .i64 m)) (hT : Tab w) :
    Calls Tryd.prog 10 #[] w fun e w' => e = .returned (.bool true) ∧ Below w.heap.size w w' := by
  have hml : 0 < w.heap.size := World.block_lt_of_cell? _ _ hm
  have HC : Hid (∀ w', Below w.heap.size w w' → Calls Tryd.prog 20 #[.string exKey] w' fun e w2 => e = .returned (.tuple #[.int .i64 7, .string payS, .bool true, .bool true]) ∧ Below w'.heap.size w' w2) := Lib.hid fun w' h => ex_cut m w' ((h.cell hml).trans hm)
  have HK : Hid (∀ w', Below (w.heap.size + 1) (w.alloc (.cells pay.arr 45)) w' → Calls Tryd.prog 19 #[.int .i64 7, .agg #[.string ⟨#[]⟩, .int .i64 0, .slice (some ⟨w.heap.size, 0, none⟩) 1 1], .int .i64 0, .bool true] w' fun e w2 => e = .returned (.string exKey) ∧ Below w'.heap.size w' w2) := Lib.hid fun w' h =>
    ex_key w w' _ rfl h (tab_below hT (((Below.refl w.heap.size w).alloc (Nat.le_refl _) _).trans (h.mono (by omega))))
  have HW : Hid (Below w.heap.size w ((w.alloc (.cells pay.arr 45)).alloc (.cells (dcells ⟨#[]⟩ 0 (some ⟨w.heap.size, 0, none⟩) 1 1) 24)) ∧ Below (w.heap.size + 1) (w.alloc (.cells pay.arr 45)) ((w.alloc (.cells pay.arr 45)).alloc (.cells (dcells ⟨#[]⟩ 0 (some ⟨w.heap.size, 0, none⟩) 1 1) 24)) ∧ Box ((w.alloc (.cells pay.arr 45)).alloc (.cells (dcells ⟨#[]⟩ 0 (some ⟨w.heap.size, 0, none⟩) 1 1) 24)) (w.heap.size + 1) 24 (dcells ⟨#[]⟩ 0 (some ⟨w.heap.size, 0, none⟩) 1 1)) :=
    Lib.hid ⟨((Below.refl _ w).alloc (Nat.le_refl _) _).alloc (by simp) _, (Below.refl _ _).alloc (by simp) _, by simpa using Box.new (w.alloc (.cells pay.arr 45)) 24 (dcells ⟨#[]⟩ 0 (some ⟨w.heap.size, 0, none⟩) 1 1)⟩
  clear hm hT
  unfold exKey payS at HC
  unfold pay payS Stp.arr dcells at HW
  unfold pay payS Stp.arr exKey at HK
  go_enter Tryd.func10, Tryd.ntmps10
  go_wp2_with (first
    | (go_at_call 20; (with_reducible refine (HC.out _ HW.out.1).mono ?_); rintro e w1 ⟨rfl, hb⟩; have HB1 := Lib.hid (hb.mono (show w.heap.size + 2 ≤ _ by simp)); clear hb; have HX := Lib.hid (HW.out.2.2.below HB1.out (by omega)); have c0 := Dc0 HX.out; have c1 := Dc1 HX.out; have c2 := Dc2 HX.out)
    | (go_at_call 19; (with_reducible refine (HK.out _ (HW.out.2.1.trans (HB1.out.mono (by omega)))).mono ?_); rintro e w2 ⟨rfl, hb⟩; have HB2 := Lib.hid hb; clear hb))
  go_ret
  have h1 := HW.out.1.trans (HB1.out.mono (by omega))
  exact ⟨rfl, h1.trans (HB2.out.mono h1.size)⟩
end Go.Proofs.YtkmldgcnbjjbcaaDoor.Df
