/-
  What the writer of parts does: a step, a definition, a reply.
  Conditions: the writer is one whose bytes lie in memory of its own; texts have at most 2^32 bytes; all of it at most 2^39.
-/
import Derived.Test.YtihkadbcjeohjaaCodPut
namespace Go.Proofs.Ytihkadbcjeohjaa.Co
open Go.RowKit
open Go.Proofs.Ytihkadbcjeohjaa.El
open Go.Proofs.Ytihkadbcjeohjaa.Df
open Go.Proofs.Ytihkadbcjeohjaa.Bo (P Made ret_int ret_bool)
open Go.Proofs.Ytihkadbcjeohjaa.Sa (Sg Rp)

theorem wtext_at (g base : Nat) (s : ByteArray) (L : List UInt8) (w : World) (hW : Wr w base g L) (hL : L.length ≤ 500000000000) (hs : s.size ≤ 500000000000) :
    Calls Try.prog 40 #[.pointer (some ⟨g, 0, none⟩), .string s] w fun e w' => e = .returned (.tuple #[]) ∧ WrAt w w' base g (L ++ tF s) := by
  refine (wtext_any g base s L w hW (by omega) (by omega)).mono ?_
  rintro e w' ⟨rfl, h⟩
  exact ⟨rfl, h.as (by unfold tF; rw [List.append_assoc])⟩
theorem wflag_at (g base : Nat) (y : Bool) (L : List UInt8) (w : World) (hW : Wr w base g L) (hL : L.length ≤ 500000000000) :
    Calls Try.prog 41 #[.pointer (some ⟨g, 0, none⟩), .bool y] w fun e w' => e = .returned (.tuple #[]) ∧ WrAt w w' base g (L ++ fF y) := wflag_any g base y L w hW (by omega)
/-- twelve cells of a step's own block -/
theorem stcells {u : World} {q : Nat} {x : Stp} (h : Box u q 67 #[.string x.nm, .string x.pt, .int .i64 x.tm, .int .i64 x.t.r, .int .i64 x.t.b, .int .i64 x.t.f, .int .i64 x.t.c, .int .i64 x.u.r, .int .i64 x.u.b, .int .i64 x.u.f, .int .i64 x.u.c, .int .i64 x.pr]) :
    u.cell? ⟨q, 0, none⟩ = some (.string x.nm) ∧ u.cell? ⟨q, 1, none⟩ = some (.string x.pt) ∧ u.cell? ⟨q, 2, none⟩ = some (.int .i64 x.tm) ∧ u.cell? ⟨q, 3, none⟩ = some (.int .i64 x.t.r) ∧ u.cell? ⟨q, 4, none⟩ = some (.int .i64 x.t.b) ∧ u.cell? ⟨q, 5, none⟩ = some (.int .i64 x.t.f) ∧ u.cell? ⟨q, 6, none⟩ = some (.int .i64 x.t.c) ∧
      u.cell? ⟨q, 7, none⟩ = some (.int .i64 x.u.r) ∧ u.cell? ⟨q, 8, none⟩ = some (.int .i64 x.u.b) ∧ u.cell? ⟨q, 9, none⟩ = some (.int .i64 x.u.f) ∧ u.cell? ⟨q, 10, none⟩ = some (.int .i64 x.u.c) ∧ u.cell? ⟨q, 11, none⟩ = some (.int .i64 x.pr) :=
  ⟨h.cell 0, h.cell 1, h.cell 2, h.cell 3, h.cell 4, h.cell 5, h.cell 6, h.cell 7, h.cell 8, h.cell 9, h.cell 10, h.cell 11⟩

/-- numbers, in a row that the call lays for them -/
theorem nums1_any (g base : Nat) (a : Int) (L : List UInt8) (w : World) (hW : Wr w base g L) (hL : L.length ≤ 1000000000000) :
    Calls Try.prog 39 #[.pointer (some ⟨g, 0, none⟩), .slice (some ⟨w.heap.size, 0, none⟩) 1 1] (w.alloc (.cells #[.int .i64 a] 3)) fun e w' => e = .returned (.tuple #[]) ∧ WrAt w w' base g (L ++ nF a) := by
  have hlt := Wr.lt hW
  refine (nums_any g base w.heap.size 1 [a] _ L _ rfl rfl (Wr.alloc hW _) (by omega) (Box.new w _ _) (by omega)).mono ?_
  rintro e w' ⟨rfl, h⟩
  exact ⟨rfl, (((WrAt.refl hW).alloc _).trans h).as (by rw [numsF_1])⟩
theorem nums2_any (g base : Nat) (a b : Int) (L : List UInt8) (w : World) (hW : Wr w base g L) (hL : L.length ≤ 1000000000000) :
    Calls Try.prog 39 #[.pointer (some ⟨g, 0, none⟩), .slice (some ⟨w.heap.size, 0, none⟩) 2 2] (w.alloc (.cells #[.int .i64 a, .int .i64 b] 3)) fun e w' => e = .returned (.tuple #[]) ∧ WrAt w w' base g (L ++ (nF a ++ nF b)) := by
  have hlt := Wr.lt hW
  refine (nums_any g base w.heap.size 2 [a, b] _ L _ rfl rfl (Wr.alloc hW _) (by omega) (Box.new w _ _) (by omega)).mono ?_
  rintro e w' ⟨rfl, h⟩
  exact ⟨rfl, (((WrAt.refl hW).alloc _).trans h).as (by rw [numsF_2])⟩
theorem nums3_any (g base : Nat) (a b c : Int) (L : List UInt8) (w : World) (hW : Wr w base g L) (hL : L.length ≤ 1000000000000) :
    Calls Try.prog 39 #[.pointer (some ⟨g, 0, none⟩), .slice (some ⟨w.heap.size, 0, none⟩) 3 3] (w.alloc (.cells #[.int .i64 a, .int .i64 b, .int .i64 c] 3)) fun e w' => e = .returned (.tuple #[]) ∧ WrAt w w' base g (L ++ (nF a ++ (nF b ++ nF c))) := by
  have hlt := Wr.lt hW
  refine (nums_any g base w.heap.size 3 [a, b, c] _ L _ rfl rfl (Wr.alloc hW _) (by omega) (Box.new w _ _) (by omega)).mono ?_
  rintro e w' ⟨rfl, h⟩
  exact ⟨rfl, (((WrAt.refl hW).alloc _).trans h).as (by simp [numsF])⟩
theorem nums4_any (g base : Nat) (a b c d : Int) (L : List UInt8) (w : World) (hW : Wr w base g L) (hL : L.length ≤ 1000000000000) :
    Calls Try.prog 39 #[.pointer (some ⟨g, 0, none⟩), .slice (some ⟨w.heap.size, 0, none⟩) 4 4] (w.alloc (.cells #[.int .i64 a, .int .i64 b, .int .i64 c, .int .i64 d] 3)) fun e w' => e = .returned (.tuple #[]) ∧ WrAt w w' base g (L ++ (nF a ++ (nF b ++ (nF c ++ nF d)))) := by
  have hlt := Wr.lt hW
  refine (nums_any g base w.heap.size 4 [a, b, c, d] _ L _ rfl rfl (Wr.alloc hW _) (by omega) (Box.new w _ _) (by omega)).mono ?_
  rintro e w' ⟨rfl, h⟩
  exact ⟨rfl, (((WrAt.refl hW).alloc _).trans h).as (by rw [numsF_4])⟩

set_option maxHeartbeats 4000000 in
set_option maxRecDepth 100000 in
theorem wstep_any (g base : Nat) (x : Stp) (L : List UInt8) (w : World) (hW : Wr w base g L) (hL : L.length + (stepF x).length ≤ 500000000000) :
    Calls Try.prog 58 #[.pointer (some ⟨g, 0, none⟩), .agg #[.string x.nm, .string x.pt, .int .i64 x.tm, .int .i64 x.t.r, .int .i64 x.t.b, .int .i64 x.t.f, .int .i64 x.t.c, .int .i64 x.u.r, .int .i64 x.u.b, .int .i64 x.u.f, .int .i64 x.u.c, .int .i64 x.pr]] w
      fun e w' => e = .returned (.tuple #[]) ∧ WrAt w w' base g (L ++ stepF x) := by
  have hlt := Wr.lt hW
  rw [stepF_len] at hL
  have HR := Lib.hid ((WrAt.refl hW).alloc (.cells #[.string x.nm, .string x.pt, .int .i64 x.tm, .int .i64 x.t.r, .int .i64 x.t.b, .int .i64 x.t.f, .int .i64 x.t.c, .int .i64 x.u.r, .int .i64 x.u.b, .int .i64 x.u.f, .int .i64 x.u.c, .int .i64 x.pr] 67))
  have HR1 := Lib.hid (WrAt.refl (Wr.alloc hW (.cells #[.string x.nm, .string x.pt, .int .i64 x.tm, .int .i64 x.t.r, .int .i64 x.t.b, .int .i64 x.t.f, .int .i64 x.t.c, .int .i64 x.u.r, .int .i64 x.u.b, .int .i64 x.u.f, .int .i64 x.u.c, .int .i64 x.pr] 67)))
  have HX := Lib.hid (Box.new w 67 #[.string x.nm, .string x.pt, .int .i64 x.tm, .int .i64 x.t.r, .int .i64 x.t.b, .int .i64 x.t.f, .int .i64 x.t.c, .int .i64 x.u.r, .int .i64 x.u.b, .int .i64 x.u.f, .int .i64 x.u.c, .int .i64 x.pr])
  have hq : w.heap.size ≠ g := by omega
  clear hW
  go_enter Try.func58, Try.ntmps58
  go_upto_region 1 with fail
  generalize w.alloc (.cells #[.string x.nm, .string x.pt, .int .i64 x.tm, .int .i64 x.t.r, .int .i64 x.t.b, .int .i64 x.t.f, .int .i64 x.t.c, .int .i64 x.u.r, .int .i64 x.u.b, .int .i64 x.u.f, .int .i64 x.u.c, .int .i64 x.pr] 67) = W0 at *
  obtain ⟨c0, c1, c2, c3, c4, c5, c6, c7, c8, c9, c10, c11⟩ := stcells (x := x) HX.out
  refine wp_region_still_tail 5 (by kernel_rfl) (by kernel_rfl) ?_
  simp only [List.take_succ_cons, List.take_zero, List.drop_succ_cons, List.drop_zero]
  change wpStill _ _ W0.drew _ _ _
  iterate 5 still_step
  refine wpStill_nil ?_
  go_wp2_with fail
  refine (wtext_at g base x.nm _ W0.drew HR1.out.drew.wr (by omega) (by omega)).mono ?_
  rintro e w1 ⟨rfl, hR⟩
  have HR2 := Lib.hid (HR1.out.drew.trans hR)
  clear hR c0 c1 c2 c3 c4 c5 c6 c7 c8 c9 c10 c11
  have HX1 := Lib.hid (HR2.out.kept _ _ _ hq (by decide) HX.out)
  obtain ⟨c0, c1, c2, c3, c4, c5, c6, c7, c8, c9, c10, c11⟩ := stcells (x := x) HX1.out
  go_wp2_with fail
  refine wp_region_still_tail 5 (by kernel_rfl) (by kernel_rfl) ?_
  simp only [List.take_succ_cons, List.take_zero, List.drop_succ_cons, List.drop_zero]
  change wpStill _ _ w1.drew _ _ _
  iterate 5 still_step
  refine wpStill_nil ?_
  go_wp2_with fail
  refine (wtext_at g base x.pt _ w1.drew HR2.out.drew.wr (by simp only [List.length_append, tF_len]; omega) (by omega)).mono ?_
  rintro e w2 ⟨rfl, hR⟩
  have HR3 := Lib.hid (HR2.out.drew.trans hR)
  clear hR c0 c1 c2 c3 c4 c5 c6 c7 c8 c9 c10 c11
  have HX2 := Lib.hid (HR3.out.kept _ _ _ hq (by decide) HX.out)
  obtain ⟨c0, c1, c2, c3, c4, c5, c6, c7, c8, c9, c10, c11⟩ := stcells (x := x) HX2.out
  go_wp2_with fail
  refine (nums1_any g base x.tm _ w2 HR3.out.wr (by simp only [List.length_append, tF_len]; omega)).mono ?_
  rintro e w3 ⟨rfl, hR⟩
  have HR4 := Lib.hid (HR3.out.trans hR)
  clear hR c0 c1 c2 c3 c4 c5 c6 c7 c8 c9 c10 c11
  have HX3 := Lib.hid (HR4.out.kept _ _ _ hq (by decide) HX.out)
  obtain ⟨c0, c1, c2, c3, c4, c5, c6, c7, c8, c9, c10, c11⟩ := stcells (x := x) HX3.out
  go_wp2_with fail
  refine (wplan_any g base x.t _ w3 HR4.out.wr (by simp only [List.length_append, tF_len, nF_len]; omega)).mono ?_
  rintro e w4 ⟨rfl, hR⟩
  have HR5 := Lib.hid (HR4.out.trans hR)
  clear hR c0 c1 c2 c3 c4 c5 c6 c7 c8 c9 c10 c11
  have HX4 := Lib.hid (HR5.out.kept _ _ _ hq (by decide) HX.out)
  obtain ⟨c0, c1, c2, c3, c4, c5, c6, c7, c8, c9, c10, c11⟩ := stcells (x := x) HX4.out
  go_wp2_with fail
  refine (wplan_any g base x.u _ w4 HR5.out.wr (by simp only [List.length_append, tF_len, nF_len, planF_len]; omega)).mono ?_
  rintro e w5 ⟨rfl, hR⟩
  have HR6 := Lib.hid (HR5.out.trans hR)
  clear hR c0 c1 c2 c3 c4 c5 c6 c7 c8 c9 c10 c11
  have HX5 := Lib.hid (HR6.out.kept _ _ _ hq (by decide) HX.out)
  obtain ⟨c0, c1, c2, c3, c4, c5, c6, c7, c8, c9, c10, c11⟩ := stcells (x := x) HX5.out
  go_wp2_with fail
  refine (nums1_any g base x.pr _ w5 HR6.out.wr (by simp only [List.length_append, tF_len, nF_len, planF_len]; omega)).mono ?_
  rintro e w6 ⟨rfl, hR⟩
  have HR7 := Lib.hid (HR6.out.trans hR)
  clear hR c0 c1 c2 c3 c4 c5 c6 c7 c8 c9 c10 c11
  go_wp2_with fail
  go_end0
  exact ⟨rfl, (HR.out.trans HR7.out).as (by unfold stepF; simp only [List.append_assoc])⟩

theorem rpcells {u : World} {q : Nat} {x : Rp} (h : Box u q 49 #[.int .i64 x.sg, .int .i64 x.sp, .bool x.un, .int .i64 x.tr, .bool x.good]) :
    u.cell? ⟨q, 0, none⟩ = some (.int .i64 x.sg) ∧ u.cell? ⟨q, 1, none⟩ = some (.int .i64 x.sp) ∧ u.cell? ⟨q, 2, none⟩ = some (.bool x.un) ∧ u.cell? ⟨q, 3, none⟩ = some (.int .i64 x.tr) ∧ u.cell? ⟨q, 4, none⟩ = some (.bool x.good) :=
  ⟨h.cell 0, h.cell 1, h.cell 2, h.cell 3, h.cell 4⟩
set_option maxHeartbeats 4000000 in
set_option maxRecDepth 100000 in
theorem wreply_any (g base : Nat) (x : Rp) (L : List UInt8) (w : World) (hW : Wr w base g L) (hL : L.length ≤ 400000000000) :
    Calls Try.prog 57 #[.pointer (some ⟨g, 0, none⟩), .agg #[.int .i64 x.sg, .int .i64 x.sp, .bool x.un, .int .i64 x.tr, .bool x.good]] w
      fun e w' => e = .returned (.tuple #[]) ∧ WrAt w w' base g (L ++ replyF x) := by
  have hlt := Wr.lt hW
  have HR := Lib.hid ((WrAt.refl hW).alloc (.cells #[.int .i64 x.sg, .int .i64 x.sp, .bool x.un, .int .i64 x.tr, .bool x.good] 49))
  have HR1 := Lib.hid (WrAt.refl (Wr.alloc hW (.cells #[.int .i64 x.sg, .int .i64 x.sp, .bool x.un, .int .i64 x.tr, .bool x.good] 49)))
  have HX := Lib.hid (Box.new w 49 #[.int .i64 x.sg, .int .i64 x.sp, .bool x.un, .int .i64 x.tr, .bool x.good])
  have hq : w.heap.size ≠ g := by omega
  clear hW
  go_enter Try.func57, Try.ntmps57
  go_upto_region 1 with fail
  generalize w.alloc (.cells #[.int .i64 x.sg, .int .i64 x.sp, .bool x.un, .int .i64 x.tr, .bool x.good] 49) = W0 at *
  obtain ⟨c0, c1, c2, c3, c4⟩ := rpcells (x := x) HX.out
  go_wp2_with fail
  refine (nums2_any g base x.sg x.sp _ W0 HR1.out.wr (by omega)).mono ?_
  rintro e w1 ⟨rfl, hR⟩
  have HR2 := Lib.hid (HR1.out.trans hR)
  clear hR c0 c1 c2 c3 c4
  have HX1 := Lib.hid (HR2.out.kept _ _ _ hq (by decide) HX.out)
  obtain ⟨c0, c1, c2, c3, c4⟩ := rpcells (x := x) HX1.out
  go_wp2_with fail
  refine wp_region_still_tail 5 (by kernel_rfl) (by kernel_rfl) ?_
  simp only [List.take_succ_cons, List.take_zero, List.drop_succ_cons, List.drop_zero]
  change wpStill _ _ w1.drew _ _ _
  iterate 5 still_step
  refine wpStill_nil ?_
  go_wp2_with fail
  refine (wflag_at g base x.un _ w1.drew HR2.out.drew.wr (by simp only [List.length_append, nF_len]; omega)).mono ?_
  rintro e w2 ⟨rfl, hR⟩
  have HR3 := Lib.hid (HR2.out.drew.trans hR)
  clear hR c0 c1 c2 c3 c4
  have HX2 := Lib.hid (HR3.out.kept _ _ _ hq (by decide) HX.out)
  obtain ⟨c0, c1, c2, c3, c4⟩ := rpcells (x := x) HX2.out
  go_wp2_with fail
  refine (nums1_any g base x.tr _ w2 HR3.out.wr (by simp only [List.length_append, nF_len, fF_len]; omega)).mono ?_
  rintro e w3 ⟨rfl, hR⟩
  have HR4 := Lib.hid (HR3.out.trans hR)
  clear hR c0 c1 c2 c3 c4
  have HX3 := Lib.hid (HR4.out.kept _ _ _ hq (by decide) HX.out)
  obtain ⟨c0, c1, c2, c3, c4⟩ := rpcells (x := x) HX3.out
  go_wp2_with fail
  refine wp_region_still_tail 5 (by kernel_rfl) (by kernel_rfl) ?_
  simp only [List.take_succ_cons, List.take_zero, List.drop_succ_cons, List.drop_zero]
  change wpStill _ _ w3.drew _ _ _
  iterate 5 still_step
  refine wpStill_nil ?_
  go_wp2_with fail
  refine (wflag_at g base x.good _ w3.drew HR4.out.drew.wr (by simp only [List.length_append, nF_len, fF_len]; omega)).mono ?_
  rintro e w4 ⟨rfl, hR⟩
  have HR5 := Lib.hid (HR4.out.drew.trans hR)
  clear hR c0 c1 c2 c3 c4
  go_wp2_with fail
  go_end0
  exact ⟨rfl, (HR.out.trans HR5.out).as (by unfold replyF; simp only [List.append_assoc])⟩
end Go.Proofs.Ytihkadbcjeohjaa.Co
