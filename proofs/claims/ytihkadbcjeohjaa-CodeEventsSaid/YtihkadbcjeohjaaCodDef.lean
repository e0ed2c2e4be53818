/-
  What the writer of parts does with a definition; the form of a definition, and of a saga.
  Conditions: the steps lie in memory; texts have at most 2^20 bytes, and there are at most 2^10 steps.
-/
import Derived.Test.YtihkadbcjeohjaaCodStep
namespace Go.Proofs.Ytihkadbcjeohjaa.Co
open Go.RowKit
open Go.Proofs.Ytihkadbcjeohjaa.El
open Go.Proofs.Ytihkadbcjeohjaa.Df
open Go.Proofs.Ytihkadbcjeohjaa.Bo (P Made ret_int ret_bool)
open Go.Proofs.Ytihkadbcjeohjaa.Sa (Sg Rp)

/-- texts and steps of a moderate size -/
def Mod (nm : ByteArray) (ss : List Stp) : Prop := nm.size ≤ 1000000 ∧ ss.length ≤ 1000 ∧ ∀ x ∈ ss, x.nm.size ≤ 1000000 ∧ x.pt.size ≤ 1000000
theorem Mod.le {nm : ByteArray} {ss : List Stp} (h : Mod nm ss) : (stepsF ss).length ≤ 2000096000 := by
  have h1 := stepsF_le ss (m := 1000000) h.2.2
  have h2 := h.2.1
  have h3 : ss.length * (96 + 2 * 1000000) ≤ 1000 * (96 + 2 * 1000000) := Nat.mul_le_mul_right _ h2
  omega
theorem stepsF_part {ss : List Stp} (k : Nat) : (stepsF (ss.take k)).length ≤ (stepsF ss).length := by
  conv => rhs; rw [← List.take_append_drop k ss]
  unfold stepsF
  rw [List.flatMap_append, List.length_append]
  omega
theorem defF_len (nm : ByteArray) (dl : Int) (ss : List Stp) : (defF nm dl ss).length = 24 + nm.size + (stepsF ss).length := by
  unfold defF
  simp only [List.length_append, tF_len, nF_len]
  omega

set_option maxHeartbeats 4000000 in
set_option maxRecDepth 100000 in
theorem wdef_any (g base : Nat) (nm : ByteArray) (dl : Int) (A : Option Addr) (c : Nat) (ss : List Stp) (n : Nat) (L : List UInt8) (w : World) (hn : n = ss.length) (hM : Mod nm ss) (hS : Df.Steps w base A ss) (hW : Wr w base g L) (hL : L.length ≤ 100000000000) :
    Calls Try.prog 26 #[.pointer (some ⟨g, 0, none⟩), .agg #[.string nm, .int .i64 dl, .slice A n c]] w
      fun e w' => e = .returned (.tuple #[]) ∧ WrAt w w' base g (L ++ defF nm dl ss) := by
  have hlt := Wr.lt hW
  have hsl := hM.le
  have hn4 : n ≤ 1000 := by have := hM.2.1; omega
  have hnm : nm.size ≤ 1000000 := hM.1
  have HR := Lib.hid ((WrAt.refl hW).alloc (.cells #[.string nm, .int .i64 dl, .slice A n c] 24))
  have HR1 := Lib.hid (WrAt.refl (Wr.alloc hW (.cells #[.string nm, .int .i64 dl, .slice A n c] 24)))
  have HX := Lib.hid (Box.new w 24 #[.string nm, .int .i64 dl, .slice A n c])
  have hq : w.heap.size ≠ g := by omega
  have HS := Lib.hid (hS.below HR.out.bel)
  have HN := Lib.hid hn
  have HM := Lib.hid hM
  clear hW hS hn hM
  go_enter Try.func26, Try.ntmps26
  go_upto_region 1 with fail
  generalize w.alloc (.cells #[.string nm, .int .i64 dl, .slice A n c] 24) = W0 at *
  have c0 : W0.cell? ⟨w.heap.size, 0, none⟩ = some (.string nm) := HX.out.cell 0
  have c1 : W0.cell? ⟨w.heap.size, 1, none⟩ = some (.int .i64 dl) := HX.out.cell 1
  have c2 : W0.cell? ⟨w.heap.size, 2, none⟩ = some (.slice A n c) := HX.out.cell 2
  refine wp_region_still_tail 5 (by kernel_rfl) (by kernel_rfl) ?_
  simp only [List.take_succ_cons, List.take_zero, List.drop_succ_cons, List.drop_zero]
  change wpStill _ _ W0.drew _ _ _
  iterate 5 still_step
  refine wpStill_nil ?_
  go_wp2_with fail
  refine (wtext_at g base nm _ W0.drew HR1.out.drew.wr (by omega) (by omega)).mono ?_
  rintro e w1 ⟨rfl, hR⟩
  have HR2 := Lib.hid (HR1.out.drew.trans hR)
  clear hR c0 c1 c2
  have HX1 := Lib.hid (HR2.out.kept _ _ _ hq (by decide) HX.out)
  have c1 : w1.cell? ⟨w.heap.size, 1, none⟩ = some (.int .i64 dl) := HX1.out.cell 1
  have c2 : w1.cell? ⟨w.heap.size, 2, none⟩ = some (.slice A n c) := HX1.out.cell 2
  go_wp2_with fail
  refine (nums2_any g base dl n _ w1 HR2.out.wr (by simp only [List.length_append, tF_len]; omega)).mono ?_
  rintro e w2 ⟨rfl, hR⟩
  have HR3 := Lib.hid (HR2.out.trans hR)
  clear hR c1 c2
  have HX2 := Lib.hid (HR3.out.kept _ _ _ hq (by decide) HX.out)
  have c2 : w2.cell? ⟨w.heap.size, 2, none⟩ = some (.slice A n c) := HX2.out.cell 2
  obtain ⟨M, hM⟩ : ∃ M, M = L ++ tF nm ++ (nF dl ++ nF n) := ⟨_, rfl⟩
  rw [← hM] at HR3
  have hML : M.length ≤ 200000000000 := by rw [hM]; simp only [List.length_append, tF_len, nF_len]; omega
  have HMM := Lib.hid hM
  have HR30 : Hid (WrAt W0 w2 base g (M ++ stepsF (ss.take 0))) := Lib.hid (by rw [List.take_zero, show stepsF [] = [] from rfl, List.append_nil]; exact HR3.out)
  clear hM
  go_wp2_with fail
  go_loopw [23] (fun vi wr => ∃ k : Nat, vi = .int .i64 (k : Int) ∧ k ≤ n ∧ Hid (WrAt W0 wr base g (M ++ stepsF (ss.take k)))) (fun vi _ => n - (intOf vi).toNat)
  case atStart => exact ⟨0, rfl, Nat.zero_le _, HR30⟩
  case round =>
    obtain ⟨k, rfl, hk, HR4⟩ := hrel
    by_cases hkn : k < n
    · obtain ⟨x, hx⟩ : ∃ x, ss[k]? = some x := ⟨_, List.getElem?_eq_getElem (by have := HN.out; omega)⟩
      obtain ⟨b, o, rfl, hbl⟩ := HS.out.at_ hx
      have HSr := Lib.hid (HS.out.below HR4.out.bel)
      have c0 : (wr).cell? ⟨b, o + k * 12, none⟩ = some (.string x.nm) := HSr.out.get hx 0 rfl
      have c1 : (wr).cell? ⟨b, o + k * 12 + 1, none⟩ = some (.string x.pt) := HSr.out.get hx 1 rfl
      have c2 : (wr).cell? ⟨b, o + k * 12 + 2, none⟩ = some (.int .i64 x.tm) := HSr.out.get hx 2 rfl
      have c3 : (wr).cell? ⟨b, o + k * 12 + 3, none⟩ = some (.int .i64 x.t.r) := HSr.out.get hx 3 rfl
      have c4 : (wr).cell? ⟨b, o + k * 12 + 4, none⟩ = some (.int .i64 x.t.b) := HSr.out.get hx 4 rfl
      have c5 : (wr).cell? ⟨b, o + k * 12 + 5, none⟩ = some (.int .i64 x.t.f) := HSr.out.get hx 5 rfl
      have c6 : (wr).cell? ⟨b, o + k * 12 + 6, none⟩ = some (.int .i64 x.t.c) := HSr.out.get hx 6 rfl
      have c7 : (wr).cell? ⟨b, o + k * 12 + 7, none⟩ = some (.int .i64 x.u.r) := HSr.out.get hx 7 rfl
      have c8 : (wr).cell? ⟨b, o + k * 12 + 8, none⟩ = some (.int .i64 x.u.b) := HSr.out.get hx 8 rfl
      have c9 : (wr).cell? ⟨b, o + k * 12 + 9, none⟩ = some (.int .i64 x.u.f) := HSr.out.get hx 9 rfl
      have c10 : (wr).cell? ⟨b, o + k * 12 + 10, none⟩ = some (.int .i64 x.u.c) := HSr.out.get hx 10 rfl
      have c11 : (wr).cell? ⟨b, o + k * 12 + 11, none⟩ = some (.int .i64 x.pr) := HSr.out.get hx 11 rfl
      have HT := Lib.hid (stepsF_take ss hx)
      have hxs := HM.out.2.2 x (List.mem_of_getElem? hx)
      have hxl : (stepF x).length ≤ 2000096 := by rw [stepF_len]; omega
      have hpl := stepsF_part (ss := ss) k
      have hlen : (M ++ stepsF (ss.take k)).length + (stepF x).length ≤ 500000000000 := by rw [List.length_append]; omega
      clear hx hxs hpl
      go_wp2_with fail
      refine (wstep_any g base x _ _ (Wr.alloc HR4.out.wr _) hlen).mono ?_
      rintro e w3 ⟨rfl, hR⟩
      have HR5 := Lib.hid ((HR4.out.alloc _).trans hR)
      clear hR c0 c1 c2 c3 c4 c5 c6 c7 c8 c9 c10 c11
      go_wp2_with fail
      go_roundw
      case rel => exact ⟨k + 1, by go_num, by omega, Lib.hid (HR5.out.as (by rw [HT.out, List.append_assoc]))⟩
      case measure => simp only [intOf]; omega
    · have hk2 : k = n := by omega
      go_wp2
      go_end0
      refine ⟨rfl, (HR.out.trans HR4.out).as ?_⟩
      rw [hk2, HN.out, List.take_length, HMM.out, HN.out]
      unfold defF
      simp only [List.append_assoc]
end Go.Proofs.Ytihkadbcjeohjaa.Co
