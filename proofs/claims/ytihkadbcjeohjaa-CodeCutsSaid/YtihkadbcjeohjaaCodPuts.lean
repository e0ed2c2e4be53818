/-
  The program's PutSaga and PutDef.
  Conditions: texts have at most 2^20 bytes, and there are at most 2^10 steps, which lie in memory.
-/
import Derived.Test.YtihkadbcjeohjaaCodDef
namespace Go.Proofs.Ytihkadbcjeohjaa.Co
open Go.RowKit
open Go.Proofs.Ytihkadbcjeohjaa.El
open Go.Proofs.Ytihkadbcjeohjaa.Df
open Go.Proofs.Ytihkadbcjeohjaa.Bo (P Made ret_int ret_bool)
open Go.Proofs.Ytihkadbcjeohjaa.Sa (Sg Rp)

theorem wr_new (w : World) (o : Obj) : Wr ((w.alloc o).alloc (.cells #[.slice none 0 0] 71)) w.heap.size (w.heap.size + 1) [] :=
  ⟨Nat.le_succ _, .slice none 0 0, 71, by decide, box_at2 w o 71 #[.slice none 0 0], World.ownsRow_nil _ _ _ _⟩
theorem two_below2 (w : World) (o o' : Obj) : Below w.heap.size w ((w.alloc o).alloc o') ∧ ((w.alloc o).alloc o').heap.size = w.heap.size + 2 := ⟨((Below.refl _ w).alloc (Nat.le_refl _) _).alloc (by simp) _, by simp⟩
/-- bytes of one's own, behind all that was done for them -/
theorem own_on {w u w' : World} {L : List UInt8} {e : Ending} (hb : Below w.heap.size w u) (h : OwnB u L e w') : OwnB w L e w' := by
  obtain ⟨A, c, rfl, hc, hy, hbl⟩ := h
  exact ⟨A, c, rfl, hc, hy, hb.trans (hbl.mono hb.size)⟩
theorem sagaF_len (s : Sg) : (sagaF s).length = 65 + s.dn.size := by
  unfold sagaF
  simp only [List.length_append, nF_len, tF_len, fF_len]
  omega
theorem sgc {u : World} {q : Nat} {s : Sg} (h : Box u q 40 #[.int .i64 s.id, .string s.dn, .int .i64 s.st, .int .i64 s.ph, .int .i64 s.sp, .int .i64 s.tr, .bool s.out, .int .i64 s.at_, .int .i64 s.sk]) : u.cell? ⟨q, 0, none⟩ = some (.int .i64 s.id) ∧ u.cell? ⟨q, 1, none⟩ = some (.string s.dn) ∧ u.cell? ⟨q, 2, none⟩ = some (.int .i64 s.st) ∧ u.cell? ⟨q, 3, none⟩ = some (.int .i64 s.ph) ∧ u.cell? ⟨q, 4, none⟩ = some (.int .i64 s.sp) ∧
    u.cell? ⟨q, 5, none⟩ = some (.int .i64 s.tr) ∧ u.cell? ⟨q, 6, none⟩ = some (.bool s.out) ∧ u.cell? ⟨q, 7, none⟩ = some (.int .i64 s.at_) ∧ u.cell? ⟨q, 8, none⟩ = some (.int .i64 s.sk) :=
  ⟨h.cell 0, h.cell 1, h.cell 2, h.cell 3, h.cell 4, h.cell 5, h.cell 6, h.cell 7, h.cell 8⟩
set_option maxHeartbeats 8000000 in
set_option maxRecDepth 100000 in
theorem putSaga_any (s : Sg) (w : World) (hs : s.dn.size ≤ 1000000) : Calls Try.prog 15 #[.agg #[.int .i64 s.id, .string s.dn, .int .i64 s.st, .int .i64 s.ph, .int .i64 s.sp, .int .i64 s.tr, .bool s.out, .int .i64 s.at_, .int .i64 s.sk]] w (OwnB w (sagaF s)) := by
  have HR0 := Lib.hid (WrAt.refl (wr_new w (.cells #[.int .i64 s.id, .string s.dn, .int .i64 s.st, .int .i64 s.ph, .int .i64 s.sp, .int .i64 s.tr, .bool s.out, .int .i64 s.at_, .int .i64 s.sk] 40)))
  have HX0 := Lib.hid ((Box.new w 40 #[.int .i64 s.id, .string s.dn, .int .i64 s.st, .int .i64 s.ph, .int .i64 s.sp, .int .i64 s.tr, .bool s.out, .int .i64 s.at_, .int .i64 s.sk]).alloc (.cells #[.slice none 0 0] 71))
  have HB := Lib.hid (two_below2 w (.cells #[.int .i64 s.id, .string s.dn, .int .i64 s.st, .int .i64 s.ph, .int .i64 s.sp, .int .i64 s.tr, .bool s.out, .int .i64 s.at_, .int .i64 s.sk] 40) (.cells #[.slice none 0 0] 71))
  have HL := Lib.hid (sagaF_len s)
  go_enter Try.func15, Try.ntmps15
  go_upto_region 2 with fail
  generalize (w.alloc (.cells #[.int .i64 s.id, .string s.dn, .int .i64 s.st, .int .i64 s.ph, .int .i64 s.sp, .int .i64 s.tr, .bool s.out, .int .i64 s.at_, .int .i64 s.sk] 40)).alloc (.cells #[.slice none 0 0] 71) = W0 at *
  obtain ⟨c0, c1, c2, c3, c4, c5, c6, c7, c8⟩ := sgc (s := s) HX0.out
  go_wp2_with fail
  refine (nums1_any (w.heap.size + 1) w.heap.size s.id _ _ HR0.out.wr (by simp)).mono ?_
  rintro e w1 ⟨rfl, hR⟩
  have HR1 := Lib.hid (HR0.out.trans hR)
  have HX1 := Lib.hid (HR1.out.kept _ _ _ (show w.heap.size ≠ w.heap.size + 1 by omega) (by decide) HX0.out)
  clear hR c0 c1 c2 c3 c4 c5 c6 c7 c8
  obtain ⟨c0, c1, c2, c3, c4, c5, c6, c7, c8⟩ := sgc (s := s) HX1.out
  go_wp2_with fail
  refine (wtext_at (w.heap.size + 1) w.heap.size s.dn _ _ HR1.out.wr (by simp only [List.length_append, List.length_nil, nF_len]; omega) (by omega)).mono ?_
  rintro e w2 ⟨rfl, hR⟩
  have HR2 := Lib.hid (HR1.out.trans hR)
  have HX2 := Lib.hid (HR2.out.kept _ _ _ (show w.heap.size ≠ w.heap.size + 1 by omega) (by decide) HX0.out)
  clear hR c0 c1 c2 c3 c4 c5 c6 c7 c8
  obtain ⟨c0, c1, c2, c3, c4, c5, c6, c7, c8⟩ := sgc (s := s) HX2.out
  go_wp2_with fail
  refine (nums4_any (w.heap.size + 1) w.heap.size s.st s.ph s.sp s.tr _ _ HR2.out.wr (by simp only [List.length_append, List.length_nil, nF_len, tF_len]; omega)).mono ?_
  rintro e w3 ⟨rfl, hR⟩
  have HR3 := Lib.hid (HR2.out.trans hR)
  have HX3 := Lib.hid (HR3.out.kept _ _ _ (show w.heap.size ≠ w.heap.size + 1 by omega) (by decide) HX0.out)
  clear hR c0 c1 c2 c3 c4 c5 c6 c7 c8
  obtain ⟨c0, c1, c2, c3, c4, c5, c6, c7, c8⟩ := sgc (s := s) HX3.out
  go_wp2_with fail
  refine (wflag_at (w.heap.size + 1) w.heap.size s.out _ _ HR3.out.wr (by simp only [List.length_append, List.length_nil, nF_len, tF_len]; omega)).mono ?_
  rintro e w4 ⟨rfl, hR⟩
  have HR4 := Lib.hid (HR3.out.trans hR)
  have HX4 := Lib.hid (HR4.out.kept _ _ _ (show w.heap.size ≠ w.heap.size + 1 by omega) (by decide) HX0.out)
  clear hR c0 c1 c2 c3 c4 c5 c6 c7 c8
  obtain ⟨c0, c1, c2, c3, c4, c5, c6, c7, c8⟩ := sgc (s := s) HX4.out
  go_wp2_with fail
  refine (nums2_any (w.heap.size + 1) w.heap.size s.at_ s.sk _ _ HR4.out.wr (by simp only [List.length_append, List.length_nil, nF_len, tF_len, fF_len]; omega)).mono ?_
  rintro e w5 ⟨rfl, hR⟩
  have HR5 := Lib.hid (HR4.out.trans hR)
  have HX5 := Lib.hid (HR5.out.kept _ _ _ (show w.heap.size ≠ w.heap.size + 1 by omega) (by decide) HX0.out)
  clear hR c0 c1 c2 c3 c4 c5 c6 c7 c8
  have HR6 := Lib.hid (HR5.out.as (N := sagaF s) (by unfold sagaF; simp only [List.nil_append, List.append_assoc]))
  go_wp2_with fail
  refine (wbytes_any (w.heap.size + 1) w.heap.size (sagaF s) _ HR6.out.wr (by have := HL.out; omega)).mono ?_
  rintro e w6 ho
  obtain ⟨A, c, rfl, hc, hy, hb⟩ := ho
  have HO := Lib.hid (show OwnB w5 (sagaF s) (.returned (.slice A (sagaF s).length c)) w6 from ⟨A, c, rfl, hc, hy, hb⟩)
  clear hc hy hb
  go_wp2_with fail
  go_ret
  exact own_on (HB.out.1.trans HR6.out.bel) HO.out
set_option maxHeartbeats 4000000 in
set_option maxRecDepth 100000 in
theorem putDef_any (nm : ByteArray) (dl : Int) (A : Option Addr) (c : Nat) (ss : List Stp) (n : Nat) (w : World) (hn : n = ss.length) (hM : Mod nm ss) (hS : Df.Steps w w.heap.size A ss) : Calls Try.prog 9 #[.agg #[.string nm, .int .i64 dl, .slice A n c]] w (OwnB w (defF nm dl ss)) := by
  have HR0 := Lib.hid (wr_new w (.cells #[.string nm, .int .i64 dl, .slice A n c] 24))
  have HX0 := Lib.hid ((Box.new w 24 #[.string nm, .int .i64 dl, .slice A n c]).alloc (.cells #[.slice none 0 0] 71))
  have HB := Lib.hid (two_below2 w (.cells #[.string nm, .int .i64 dl, .slice A n c] 24) (.cells #[.slice none 0 0] 71))
  have HL := Lib.hid (defF_len nm dl ss)
  have hsl := hM.le
  have hnm := hM.1
  have HD := Lib.hid (wdef_any (w.heap.size + 1) w.heap.size nm dl A c ss n [] ((w.alloc (.cells #[.string nm, .int .i64 dl, .slice A n c] 24)).alloc (.cells #[.slice none 0 0] 71)) hn hM (hS.below HB.out.1) HR0.out (by simp))
  clear hn hM hS
  go_enter Try.func9, Try.ntmps9
  go_upto_region 2 with fail
  generalize (w.alloc (.cells #[.string nm, .int .i64 dl, .slice A n c] 24)).alloc (.cells #[.slice none 0 0] 71) = W0 at *
  have c0 : W0.cell? ⟨w.heap.size, 0, none⟩ = some (.string nm) := HX0.out.cell 0
  have c1 : W0.cell? ⟨w.heap.size, 1, none⟩ = some (.int .i64 dl) := HX0.out.cell 1
  have c2 : W0.cell? ⟨w.heap.size, 2, none⟩ = some (.slice A n c) := HX0.out.cell 2
  go_wp2_with fail
  refine HD.out.mono ?_
  rintro e w1 ⟨rfl, hR⟩
  have HR6 := Lib.hid (hR.as (N := defF nm dl ss) (by rw [List.nil_append]))
  clear hR c0 c1 c2
  go_wp2_with fail
  refine (wbytes_any (w.heap.size + 1) w.heap.size (defF nm dl ss) _ HR6.out.wr (by have := HL.out; omega)).mono ?_
  rintro e w6 ho
  obtain ⟨A2, c2, rfl, hc, hy, hb⟩ := ho
  have HO := Lib.hid (show OwnB w1 (defF nm dl ss) (.returned (.slice A2 (defF nm dl ss).length c2)) w6 from ⟨A2, c2, rfl, hc, hy, hb⟩)
  clear hc hy hb
  go_wp2_with fail
  go_ret
  exact own_on (HB.out.1.trans HR6.out.bel) HO.out
end Go.Proofs.Ytihkadbcjeohjaa.Co
