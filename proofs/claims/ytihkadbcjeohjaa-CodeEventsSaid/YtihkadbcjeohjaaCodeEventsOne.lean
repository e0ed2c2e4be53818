/-
  The statement CodeEventsSaid: for every input the law function CodeEvents returns true (which events are right, the form of a right one, and the event of any bytes, or what is wrong, and where, are as the document says; a right one whose numbers have a form is taken as it was), and the arguments read afterwards as before.
  Conditions: none.
-/
import Derived.Test.YtihkadbcjeohjaaCodDef
import Derived.Test.YtihkadbcjeohjaaCodEq
import Derived.Test.YtihkadbcjeohjaaCodNum
import Derived.Test.YtihkadbcjeohjaaCodMath
import Derived.Test.YtihkadbcjeohjaaDefEnd
import Derived.Shelf.SlSortCmp.QuietGrown
import Derived.LoopTactic
import Derived.WalkMore
import Derived.Test.YtihkadbcjeohjaaCodRGood
import Derived.Test.YtihkadbcjeohjaaCodTEvent
import Derived.Test.YtihkadbcjeohjaaCodGood
import Derived.Test.YtihkadbcjeohjaaCodRdEventOne
import Derived.Deep.DeepCutAuto
namespace Go.Proofs.Ytihkadbcjeohjaa.Co
open Go.RowKit
open Go.Proofs.Ytihkadbcjeohjaa.El
open Go.Proofs.Ytihkadbcjeohjaa.Df
open Go.Proofs.Ytihkadbcjeohjaa.Bo (P Made ret_int ret_bool)
open Go.Proofs.Ytihkadbcjeohjaa.Sa (Sg Rp)

theorem wr_new (w : World) (o : Obj) : Wr ((w.alloc o).alloc (.cells #[.slice none 0 0] 71)) w.heap.size (w.heap.size + 1) [] :=
  ⟨Nat.le_succ _, .slice none 0 0, 71, by decide, box_at2 w o 71 #[.slice none 0 0], World.ownsRow_nil _ _ _ _⟩
theorem two_below2 (w : World) (o o' : Obj) : Below w.heap.size w ((w.alloc o).alloc o') ∧ ((w.alloc o).alloc o').heap.size = w.heap.size + 2 := ⟨((Below.refl _ w).alloc (Nat.le_refl _) _).alloc (by simp) _, by simp⟩
/-- bytes of one's own, behind all that was done for them -/
theorem own_on {w u w' : World} {L : List UInt8} {e : Ending} (hb : Below w.heap.size w u) (h : OwnB u L e w') : OwnB w L e w' := by
  obtain ⟨A, c, rfl, hc, hy, hbl⟩ := h
  exact ⟨A, c, rfl, hc, hy, hb.trans (hbl.mono hb.size)⟩
theorem sagaF_len (s : Sg) : (sagaF s).length = 65 + s.dn.size := by
  unfold sagaF
  simp only [List.length_append, nF_len, tF_len, fF_len]
  omega
theorem sgc {u : World} {q : Nat} {s : Sg} (h : Box u q 40 #[.int .i64 s.id, .string s.dn, .int .i64 s.st, .int .i64 s.ph, .int .i64 s.sp, .int .i64 s.tr, .bool s.out, .int .i64 s.at_, .int .i64 s.sk]) : u.cell? ⟨q, 0, none⟩ = some (.int .i64 s.id) ∧ u.cell? ⟨q, 1, none⟩ = some (.string s.dn) ∧ u.cell? ⟨q, 2, none⟩ = some (.int .i64 s.st) ∧ u.cell? ⟨q, 3, none⟩ = some (.int .i64 s.ph) ∧ u.cell? ⟨q, 4, none⟩ = some (.int .i64 s.sp) ∧
    u.cell? ⟨q, 5, none⟩ = some (.int .i64 s.tr) ∧ u.cell? ⟨q, 6, none⟩ = some (.bool s.out) ∧ u.cell? ⟨q, 7, none⟩ = some (.int .i64 s.at_) ∧ u.cell? ⟨q, 8, none⟩ = some (.int .i64 s.sk) :=
  ⟨h.cell 0, h.cell 1, h.cell 2, h.cell 3, h.cell 4, h.cell 5, h.cell 6, h.cell 7, h.cell 8⟩
set_option maxHeartbeats 8000000 in
set_option maxRecDepth 100000 in
theorem putSaga_any (s : Sg) (w : World) (hs : s.dn.size ≤ 1000000) : Calls Try.prog 15 #[.agg #[.int .i64 s.id, .string s.dn, .int .i64 s.st, .int .i64 s.ph, .int .i64 s.sp, .int .i64 s.tr, .bool s.out, .int .i64 s.at_, .int .i64 s.sk]] w (OwnB w (sagaF s)) := by
  have HR0 := Lib.hid (WrAt.refl (wr_new w (.cells #[.int .i64 s.id, .string s.dn, .int .i64 s.st, .int .i64 s.ph, .int .i64 s.sp, .int .i64 s.tr, .bool s.out, .int .i64 s.at_, .int .i64 s.sk] 40)))
  have HX0 := Lib.hid ((Box.new w 40 #[.int .i64 s.id, .string s.dn, .int .i64 s.st, .int .i64 s.ph, .int .i64 s.sp, .int .i64 s.tr, .bool s.out, .int .i64 s.at_, .int .i64 s.sk]).alloc (.cells #[.slice none 0 0] 71))
  have HB := Lib.hid (two_below2 w (.cells #[.int .i64 s.id, .string s.dn, .int .i64 s.st, .int .i64 s.ph, .int .i64 s.sp, .int .i64 s.tr, .bool s.out, .int .i64 s.at_, .int .i64 s.sk] 40) (.cells #[.slice none 0 0] 71))
  have HL := Lib.hid (sagaF_len s)
  go_enter Try.func15, Try.ntmps15
  go_upto_region 2 with fail
  generalize (w.alloc (.cells #[.int .i64 s.id, .string s.dn, .int .i64 s.st, .int .i64 s.ph, .int .i64 s.sp, .int .i64 s.tr, .bool s.out, .int .i64 s.at_, .int .i64 s.sk] 40)).alloc (.cells #[.slice none 0 0] 71) = W0 at *
  obtain ⟨c0, c1, c2, c3, c4, c5, c6, c7, c8⟩ := sgc (s := s) HX0.out
  go_wp2_with fail
  refine (nums1_any (w.heap.size + 1) w.heap.size s.id _ _ HR0.out.wr (by simp)).mono ?_
  rintro e w1 ⟨rfl, hR⟩
  have HR1 := Lib.hid (HR0.out.trans hR)
  have HX1 := Lib.hid (HR1.out.kept _ _ _ (show w.heap.size ≠ w.heap.size + 1 by omega) (by decide) HX0.out)
  clear hR c0 c1 c2 c3 c4 c5 c6 c7 c8
  obtain ⟨c0, c1, c2, c3, c4, c5, c6, c7, c8⟩ := sgc (s := s) HX1.out
  go_wp2_with fail
  refine (wtext_at (w.heap.size + 1) w.heap.size s.dn _ _ HR1.out.wr (by simp only [List.length_append, List.length_nil, nF_len]; omega) (by omega)).mono ?_
  rintro e w2 ⟨rfl, hR⟩
  have HR2 := Lib.hid (HR1.out.trans hR)
  have HX2 := Lib.hid (HR2.out.kept _ _ _ (show w.heap.size ≠ w.heap.size + 1 by omega) (by decide) HX0.out)
  clear hR c0 c1 c2 c3 c4 c5 c6 c7 c8
  obtain ⟨c0, c1, c2, c3, c4, c5, c6, c7, c8⟩ := sgc (s := s) HX2.out
  go_wp2_with fail
  refine (nums4_any (w.heap.size + 1) w.heap.size s.st s.ph s.sp s.tr _ _ HR2.out.wr (by simp only [List.length_append, List.length_nil, nF_len, tF_len]; omega)).mono ?_
  rintro e w3 ⟨rfl, hR⟩
  have HR3 := Lib.hid (HR2.out.trans hR)
  have HX3 := Lib.hid (HR3.out.kept _ _ _ (show w.heap.size ≠ w.heap.size + 1 by omega) (by decide) HX0.out)
  clear hR c0 c1 c2 c3 c4 c5 c6 c7 c8
  obtain ⟨c0, c1, c2, c3, c4, c5, c6, c7, c8⟩ := sgc (s := s) HX3.out
  go_wp2_with fail
  refine (wflag_at (w.heap.size + 1) w.heap.size s.out _ _ HR3.out.wr (by simp only [List.length_append, List.length_nil, nF_len, tF_len]; omega)).mono ?_
  rintro e w4 ⟨rfl, hR⟩
  have HR4 := Lib.hid (HR3.out.trans hR)
  have HX4 := Lib.hid (HR4.out.kept _ _ _ (show w.heap.size ≠ w.heap.size + 1 by omega) (by decide) HX0.out)
  clear hR c0 c1 c2 c3 c4 c5 c6 c7 c8
  obtain ⟨c0, c1, c2, c3, c4, c5, c6, c7, c8⟩ := sgc (s := s) HX4.out
  go_wp2_with fail
  refine (nums2_any (w.heap.size + 1) w.heap.size s.at_ s.sk _ _ HR4.out.wr (by simp only [List.length_append, List.length_nil, nF_len, tF_len, fF_len]; omega)).mono ?_
  rintro e w5 ⟨rfl, hR⟩
  have HR5 := Lib.hid (HR4.out.trans hR)
  have HX5 := Lib.hid (HR5.out.kept _ _ _ (show w.heap.size ≠ w.heap.size + 1 by omega) (by decide) HX0.out)
  clear hR c0 c1 c2 c3 c4 c5 c6 c7 c8
  have HR6 := Lib.hid (HR5.out.as (N := sagaF s) (by unfold sagaF; simp only [List.nil_append, List.append_assoc]))
  go_wp2_with fail
  refine (wbytes_any (w.heap.size + 1) w.heap.size (sagaF s) _ HR6.out.wr (by have := HL.out; omega)).mono ?_
  rintro e w6 ho
  obtain ⟨A, c, rfl, hc, hy, hb⟩ := ho
  have HO := Lib.hid (show OwnB w5 (sagaF s) (.returned (.slice A (sagaF s).length c)) w6 from ⟨A, c, rfl, hc, hy, hb⟩)
  clear hc hy hb
  go_wp2_with fail
  go_ret
  exact own_on (HB.out.1.trans HR6.out.bel) HO.out
set_option maxHeartbeats 4000000 in
set_option maxRecDepth 100000 in
theorem putDef_any (nm : ByteArray) (dl : Int) (A : Option Addr) (c : Nat) (ss : List Stp) (n : Nat) (w : World) (hn : n = ss.length) (hM : Mod nm ss) (hS : Df.Steps w w.heap.size A ss) : Calls Try.prog 9 #[.agg #[.string nm, .int .i64 dl, .slice A n c]] w (OwnB w (defF nm dl ss)) := by
  have HR0 := Lib.hid (wr_new w (.cells #[.string nm, .int .i64 dl, .slice A n c] 24))
  have HX0 := Lib.hid ((Box.new w 24 #[.string nm, .int .i64 dl, .slice A n c]).alloc (.cells #[.slice none 0 0] 71))
  have HB := Lib.hid (two_below2 w (.cells #[.string nm, .int .i64 dl, .slice A n c] 24) (.cells #[.slice none 0 0] 71))
  have HL := Lib.hid (defF_len nm dl ss)
  have hsl := hM.le
  have hnm := hM.1
  have HD := Lib.hid (wdef_any (w.heap.size + 1) w.heap.size nm dl A c ss n [] ((w.alloc (.cells #[.string nm, .int .i64 dl, .slice A n c] 24)).alloc (.cells #[.slice none 0 0] 71)) hn hM (hS.below HB.out.1) HR0.out (by simp))
  clear hn hM hS
  go_enter Try.func9, Try.ntmps9
  go_upto_region 2 with fail
  generalize (w.alloc (.cells #[.string nm, .int .i64 dl, .slice A n c] 24)).alloc (.cells #[.slice none 0 0] 71) = W0 at *
  have c0 : W0.cell? ⟨w.heap.size, 0, none⟩ = some (.string nm) := HX0.out.cell 0
  have c1 : W0.cell? ⟨w.heap.size, 1, none⟩ = some (.int .i64 dl) := HX0.out.cell 1
  have c2 : W0.cell? ⟨w.heap.size, 2, none⟩ = some (.slice A n c) := HX0.out.cell 2
  go_wp2_with fail
  refine HD.out.mono ?_
  rintro e w1 ⟨rfl, hR⟩
  have HR6 := Lib.hid (hR.as (N := defF nm dl ss) (by rw [List.nil_append]))
  clear hR c0 c1 c2
  go_wp2_with fail
  refine (wbytes_any (w.heap.size + 1) w.heap.size (defF nm dl ss) _ HR6.out.wr (by have := HL.out; omega)).mono ?_
  rintro e w6 ho
  obtain ⟨A2, c2, rfl, hc, hy, hb⟩ := ho
  have HO := Lib.hid (show OwnB w1 (defF nm dl ss) (.returned (.slice A2 (defF nm dl ss).length c2)) w6 from ⟨A2, c2, rfl, hc, hy, hb⟩)
  clear hc hy hb
  go_wp2_with fail
  go_ret
  exact own_on (HB.out.1.trans HR6.out.bel) HO.out
end Go.Proofs.Ytihkadbcjeohjaa.Co

namespace Go.Proofs.Ytihkadbcjeohjaa.Co
open Go.RowKit
open Go.Proofs.Ytihkadbcjeohjaa.El
open Go.Proofs.Ytihkadbcjeohjaa.Df
open Go.Proofs.Ytihkadbcjeohjaa.Bo (P Made ret_int ret_bool)
open Go.Proofs.Ytihkadbcjeohjaa.Sa (Sg Rp)

def sg0 : Sg := ⟨0, ⟨#[]⟩, 0, 0, 0, 0, false, 0, 0⟩
theorem sg0_form : sagaF sg0 = List.replicate 65 0 := by decide +kernel
theorem sg0_put (w : World) : Calls Try.prog 15 #[.agg #[.int .i64 0, .string ⟨#[]⟩, .int .i64 0, .int .i64 0, .int .i64 0, .int .i64 0, .bool false, .int .i64 0, .int .i64 0]] w (OwnB w (List.replicate 65 0)) := by
  rw [← sg0_form]
  exact putSaga_any sg0 w (by decide)
set_option maxHeartbeats 1000000 in
set_option maxRecDepth 100000 in
theorem awake_any (w : World) : Calls Try.prog 7 #[] w fun e w' => e = .returned (.bool true) ∧ Below w.heap.size w w' := by
  have HP := Lib.hid (sg0_put w)
  go_enter Try.func7, Try.ntmps7
  go_wp2_with fail
  refine HP.out.mono ?_
  rintro e w1 ⟨A, c, rfl, hc, hy, hb⟩
  have HY := Lib.hid hy
  have HB := Lib.hid hb
  rw [List.length_replicate]
  clear hy hb hc HP
  go_wp2_with fail
  go_loopw [2] (fun vi wr => ∃ k : Nat, vi = .int .i64 (k : Int) ∧ k ≤ 65 ∧ wr = w1) (fun vi _ => 65 - (intOf vi).toNat)
  case atStart => exact ⟨0, rfl, Nat.zero_le _, rfl⟩
  case round =>
    obtain ⟨k, rfl, hk, rfl⟩ := hrel
    by_cases hkn : k < 65
    · obtain ⟨b, o, rfl, _, hcl⟩ := HY.out.get (k := k) (by rw [List.length_replicate]; exact hkn)
      rw [List.getElem_replicate] at hcl
      have hcl' : wr.cell? ⟨b, o + k, none⟩ = some (.int .u8 0) := hcl
      clear hcl
      go_wp2
      go_roundw
      case rel => exact ⟨k + 1, by go_num, by omega, trivial⟩
      case measure => simp only [intOf]; omega
    · have hk2 : k = 65 := by omega
      subst hk2
      go_wp2
      go_ret
      exact ⟨rfl, HB.out⟩
end Go.Proofs.Ytihkadbcjeohjaa.Co

namespace Go.Proofs.Ytihkadbcjeohjaa.Co
open Go.RowKit Go.Sort
open Go.Proofs.Ytihkadbcjeohjaa.El
open Go.Proofs.Ytihkadbcjeohjaa.Df
open Go.Proofs.Ytihkadbcjeohjaa.Bo (P Made ret_int ret_bool)
open Go.Proofs.Ytihkadbcjeohjaa.Sa (Sg Rp)

/-- bytes as a text -/
def sb (L : List UInt8) : ByteArray := ⟨L.toArray⟩
theorem sb_size (L : List UInt8) : (sb L).size = L.length := by
  show L.toArray.size = _
  simp
theorem sb_app (L M : List UInt8) : sb L ++ sb M = sb (L ++ M) := by
  apply ByteArray.ext
  apply Array.toList_inj.1
  rw [ByteArray.data_append]
  simp [sb]
theorem sb_self (s : ByteArray) : sb s.data.toList = s := by
  cases s
  rfl
theorem rnum_s (n : Int) (w : World) : Calls Try.prog 29 #[.int .i64 n] w fun e w' => e = .returned (.string (sb (nF n))) ∧ Made w w' := xnum_any n w
theorem rtext_s (s : ByteArray) (w : World) (hs : s.size ≤ 1099511627776) : Calls Try.prog 28 #[.string s] w fun e w' => e = .returned (.string (sb (tF s))) ∧ Made w w' := by
  have HN := Lib.hid (rnum_s (s.size : Int) w)
  obtain ⟨b, hb⟩ : ∃ b, b = sb (nF (s.size : Int)) := ⟨_, rfl⟩
  have hz : b.size = 8 := by rw [hb, sb_size, nF_len]
  rw [← hb] at HN
  have HB : Hid (b ++ s = sb (tF s)) := Lib.hid (by
    rw [hb]
    conv => lhs; rw [← sb_self s]
    rw [sb_app, sb_self]
    unfold tF nF
    rw [clp_of (by omega)])
  have hg : ¬ 9223372036854775807 < b.size + s.size := by omega
  clear hb
  go_enter Try.func28, Try.ntmps28
  go_wp2_with fail
  refine HN.out.mono ?_
  rintro e w1 ⟨rfl, hm⟩
  go_wp2_with fail
  go_ret
  exact ⟨by rw [← HB.out]; rfl, hm⟩
theorem rflag_s (y : Bool) (w : World) : Calls Try.prog 49 #[.bool y] w fun e w' => e = .returned (.string (sb (fF y))) ∧ Made w w' := by
  cases y
  all_goals
    go_enter Try.func49, Try.ntmps49
    go_wp2
    go_ret
    exact ⟨rfl, Made.refl _⟩
theorem made_grow (w : World) (q : Nat) (os : Array Obj) : Made w (grow (w.drewN q) os) := ⟨q, os, rfl⟩
set_option maxHeartbeats 4000000 in
set_option maxRecDepth 100000 in
theorem rplan_s (p : P) (w : World) : Calls Try.prog 30 #[.agg #[.int .i64 p.r, .int .i64 p.b, .int .i64 p.f, .int .i64 p.c]] w fun e w' => e = .returned (.string (sb (planF p))) ∧ Made w w' := by
  obtain ⟨b0, hb0⟩ : ∃ b, b = sb (nF p.r) := ⟨_, rfl⟩
  have HN0 : Hid (∀ W, Calls Try.prog 29 #[.int .i64 p.r] W fun e w2 => e = .returned (.string b0) ∧ Made W w2) := Lib.hid fun W => by rw [hb0]; exact rnum_s p.r W
  have hz0 : b0.size = 8 := by rw [hb0, sb_size, nF_len]
  obtain ⟨b1, hb1⟩ : ∃ b, b = sb (nF p.b) := ⟨_, rfl⟩
  have HN1 : Hid (∀ W, Calls Try.prog 29 #[.int .i64 p.b] W fun e w2 => e = .returned (.string b1) ∧ Made W w2) := Lib.hid fun W => by rw [hb1]; exact rnum_s p.b W
  have hz1 : b1.size = 8 := by rw [hb1, sb_size, nF_len]
  obtain ⟨b2, hb2⟩ : ∃ b, b = sb (nF p.f) := ⟨_, rfl⟩
  have HN2 : Hid (∀ W, Calls Try.prog 29 #[.int .i64 p.f] W fun e w2 => e = .returned (.string b2) ∧ Made W w2) := Lib.hid fun W => by rw [hb2]; exact rnum_s p.f W
  have hz2 : b2.size = 8 := by rw [hb2, sb_size, nF_len]
  obtain ⟨b3, hb3⟩ : ∃ b, b = sb (nF p.c) := ⟨_, rfl⟩
  have HN3 : Hid (∀ W, Calls Try.prog 29 #[.int .i64 p.c] W fun e w2 => e = .returned (.string b3) ∧ Made W w2) := Lib.hid fun W => by rw [hb3]; exact rnum_s p.c W
  have hz3 : b3.size = 8 := by rw [hb3, sb_size, nF_len]
  have HB : Hid ((((b0 ++ b1) ++ b2) ++ b3) = sb (planF p)) := Lib.hid (by
    rw [hb0, hb1, hb2, hb3]
    simp only [sb_app]
    unfold planF
    simp only [List.append_assoc])
  have hg1 : ¬ 9223372036854775807 < b0.size + b1.size := by omega
  have hg2 : ¬ 9223372036854775807 < b0.size + b1.size + b2.size := by omega
  have hg3 : ¬ 9223372036854775807 < b0.size + b1.size + b2.size + b3.size := by omega
  clear hb0 hb1 hb2 hb3 hz0 hz1 hz2 hz3
  have mixed : Try.prog.follows .mixedOrders = true := by kernel_rfl
  have HX := Lib.hid (Box.new w 65 #[.int .i64 p.r, .int .i64 p.b, .int .i64 p.f, .int .i64 p.c])
  have HM := Lib.hid (Made.alloc w (.cells #[.int .i64 p.r, .int .i64 p.b, .int .i64 p.f, .int .i64 p.c] 65))
  go_enter Try.func30, Try.ntmps30
  go_upto_region 1 with fail
  generalize w.alloc (.cells #[.int .i64 p.r, .int .i64 p.b, .int .i64 p.f, .int .i64 p.c] 65) = W0 at *
  have c0 : ∀ n os, (grow (W0.drewN n) os).cell? ⟨w.heap.size, 0, none⟩ = some (.int .i64 p.r) := fun n os => cell_grown HX.out.lt (HX.out.cell 0) n os
  have c1 : ∀ n os, (grow (W0.drewN n) os).cell? ⟨w.heap.size, 1, none⟩ = some (.int .i64 p.b) := fun n os => cell_grown HX.out.lt (HX.out.cell 1) n os
  have c2 : ∀ n os, (grow (W0.drewN n) os).cell? ⟨w.heap.size, 2, none⟩ = some (.int .i64 p.f) := fun n os => cell_grown HX.out.lt (HX.out.cell 2) n os
  have c3 : ∀ n os, (grow (W0.drewN n) os).cell? ⟨w.heap.size, 3, none⟩ = some (.int .i64 p.c) := fun n os => cell_grown HX.out.lt (HX.out.cell 3) n os
  go_quiet_grown (first
    | (go_at_call 29; with_reducible exact Calls.grown_of (HN0.out _))
    | (go_at_call 29; with_reducible exact Calls.grown_of (HN1.out _))
    | (go_at_call 29; with_reducible exact Calls.grown_of (HN2.out _))
    | (go_at_call 29; with_reducible exact Calls.grown_of (HN3.out _)))
  go_wp2_with fail
  go_ret
  exact ⟨by rw [← HB.out]; rfl, HM.out.trans (made_grow _ _ _)⟩
set_option maxHeartbeats 4000000 in
set_option maxRecDepth 100000 in
theorem rsaga_s (s : Sg) (w : World) (hs : s.dn.size ≤ 1000000) : Calls Try.prog 18 #[.agg #[.int .i64 s.id, .string s.dn, .int .i64 s.st, .int .i64 s.ph, .int .i64 s.sp, .int .i64 s.tr, .bool s.out, .int .i64 s.at_, .int .i64 s.sk]] w fun e w' => e = .returned (.string (sb (sagaF s))) ∧ Made w w' := by
  obtain ⟨b0, hb0⟩ : ∃ b, b = sb (nF s.id) := ⟨_, rfl⟩
  have HN0 : Hid (∀ W, Calls Try.prog 29 #[.int .i64 s.id] W fun e w2 => e = .returned (.string b0) ∧ Made W w2) := Lib.hid fun W => by rw [hb0]; exact rnum_s s.id W
  have hz0 : b0.size = 8 := by rw [hb0, sb_size, nF_len]
  obtain ⟨b1, hb1⟩ : ∃ b, b = sb (tF s.dn) := ⟨_, rfl⟩
  have HN1 : Hid (∀ W, Calls Try.prog 28 #[.string s.dn] W fun e w2 => e = .returned (.string b1) ∧ Made W w2) := Lib.hid fun W => by rw [hb1]; exact rtext_s s.dn W (by omega)
  have hz1 : b1.size = 8 + (s.dn).size := by rw [hb1, sb_size, tF_len]
  obtain ⟨b2, hb2⟩ : ∃ b, b = sb (nF s.st) := ⟨_, rfl⟩
  have HN2 : Hid (∀ W, Calls Try.prog 29 #[.int .i64 s.st] W fun e w2 => e = .returned (.string b2) ∧ Made W w2) := Lib.hid fun W => by rw [hb2]; exact rnum_s s.st W
  have hz2 : b2.size = 8 := by rw [hb2, sb_size, nF_len]
  obtain ⟨b3, hb3⟩ : ∃ b, b = sb (nF s.ph) := ⟨_, rfl⟩
  have HN3 : Hid (∀ W, Calls Try.prog 29 #[.int .i64 s.ph] W fun e w2 => e = .returned (.string b3) ∧ Made W w2) := Lib.hid fun W => by rw [hb3]; exact rnum_s s.ph W
  have hz3 : b3.size = 8 := by rw [hb3, sb_size, nF_len]
  obtain ⟨b4, hb4⟩ : ∃ b, b = sb (nF s.sp) := ⟨_, rfl⟩
  have HN4 : Hid (∀ W, Calls Try.prog 29 #[.int .i64 s.sp] W fun e w2 => e = .returned (.string b4) ∧ Made W w2) := Lib.hid fun W => by rw [hb4]; exact rnum_s s.sp W
  have hz4 : b4.size = 8 := by rw [hb4, sb_size, nF_len]
  obtain ⟨b5, hb5⟩ : ∃ b, b = sb (nF s.tr) := ⟨_, rfl⟩
  have HN5 : Hid (∀ W, Calls Try.prog 29 #[.int .i64 s.tr] W fun e w2 => e = .returned (.string b5) ∧ Made W w2) := Lib.hid fun W => by rw [hb5]; exact rnum_s s.tr W
  have hz5 : b5.size = 8 := by rw [hb5, sb_size, nF_len]
  obtain ⟨b6, hb6⟩ : ∃ b, b = sb (fF s.out) := ⟨_, rfl⟩
  have HN6 : Hid (∀ W, Calls Try.prog 49 #[.bool s.out] W fun e w2 => e = .returned (.string b6) ∧ Made W w2) := Lib.hid fun W => by rw [hb6]; exact rflag_s s.out W
  have hz6 : b6.size = 1 := by rw [hb6, sb_size, fF_len]
  obtain ⟨b7, hb7⟩ : ∃ b, b = sb (nF s.at_) := ⟨_, rfl⟩
  have HN7 : Hid (∀ W, Calls Try.prog 29 #[.int .i64 s.at_] W fun e w2 => e = .returned (.string b7) ∧ Made W w2) := Lib.hid fun W => by rw [hb7]; exact rnum_s s.at_ W
  have hz7 : b7.size = 8 := by rw [hb7, sb_size, nF_len]
  obtain ⟨b8, hb8⟩ : ∃ b, b = sb (nF s.sk) := ⟨_, rfl⟩
  have HN8 : Hid (∀ W, Calls Try.prog 29 #[.int .i64 s.sk] W fun e w2 => e = .returned (.string b8) ∧ Made W w2) := Lib.hid fun W => by rw [hb8]; exact rnum_s s.sk W
  have hz8 : b8.size = 8 := by rw [hb8, sb_size, nF_len]
  have HB : Hid (((((((((b0 ++ b1) ++ b2) ++ b3) ++ b4) ++ b5) ++ b6) ++ b7) ++ b8) = sb (sagaF s)) := Lib.hid (by
    rw [hb0, hb1, hb2, hb3, hb4, hb5, hb6, hb7, hb8]
    simp only [sb_app]
    unfold sagaF
    simp only [List.append_assoc])
  have hg1 : ¬ 9223372036854775807 < b0.size + b1.size := by omega
  have hg2 : ¬ 9223372036854775807 < b0.size + b1.size + b2.size := by omega
  have hg3 : ¬ 9223372036854775807 < b0.size + b1.size + b2.size + b3.size := by omega
  have hg4 : ¬ 9223372036854775807 < b0.size + b1.size + b2.size + b3.size + b4.size := by omega
  have hg5 : ¬ 9223372036854775807 < b0.size + b1.size + b2.size + b3.size + b4.size + b5.size := by omega
  have hg6 : ¬ 9223372036854775807 < b0.size + b1.size + b2.size + b3.size + b4.size + b5.size + b6.size := by omega
  have hg7 : ¬ 9223372036854775807 < b0.size + b1.size + b2.size + b3.size + b4.size + b5.size + b6.size + b7.size := by omega
  have hg8 : ¬ 9223372036854775807 < b0.size + b1.size + b2.size + b3.size + b4.size + b5.size + b6.size + b7.size + b8.size := by omega
  clear hb0 hb1 hb2 hb3 hb4 hb5 hb6 hb7 hb8 hz0 hz1 hz2 hz3 hz4 hz5 hz6 hz7 hz8
  have mixed : Try.prog.follows .mixedOrders = true := by kernel_rfl
  have HX := Lib.hid (Box.new w 40 #[.int .i64 s.id, .string s.dn, .int .i64 s.st, .int .i64 s.ph, .int .i64 s.sp, .int .i64 s.tr, .bool s.out, .int .i64 s.at_, .int .i64 s.sk])
  have HM := Lib.hid (Made.alloc w (.cells #[.int .i64 s.id, .string s.dn, .int .i64 s.st, .int .i64 s.ph, .int .i64 s.sp, .int .i64 s.tr, .bool s.out, .int .i64 s.at_, .int .i64 s.sk] 40))
  go_enter Try.func18, Try.ntmps18
  go_upto_region 1 with fail
  generalize w.alloc (.cells #[.int .i64 s.id, .string s.dn, .int .i64 s.st, .int .i64 s.ph, .int .i64 s.sp, .int .i64 s.tr, .bool s.out, .int .i64 s.at_, .int .i64 s.sk] 40) = W0 at *
  have c0 : ∀ n os, (grow (W0.drewN n) os).cell? ⟨w.heap.size, 0, none⟩ = some (.int .i64 s.id) := fun n os => cell_grown HX.out.lt (HX.out.cell 0) n os
  have c1 : ∀ n os, (grow (W0.drewN n) os).cell? ⟨w.heap.size, 1, none⟩ = some (.string s.dn) := fun n os => cell_grown HX.out.lt (HX.out.cell 1) n os
  have c2 : ∀ n os, (grow (W0.drewN n) os).cell? ⟨w.heap.size, 2, none⟩ = some (.int .i64 s.st) := fun n os => cell_grown HX.out.lt (HX.out.cell 2) n os
  have c3 : ∀ n os, (grow (W0.drewN n) os).cell? ⟨w.heap.size, 3, none⟩ = some (.int .i64 s.ph) := fun n os => cell_grown HX.out.lt (HX.out.cell 3) n os
  have c4 : ∀ n os, (grow (W0.drewN n) os).cell? ⟨w.heap.size, 4, none⟩ = some (.int .i64 s.sp) := fun n os => cell_grown HX.out.lt (HX.out.cell 4) n os
  have c5 : ∀ n os, (grow (W0.drewN n) os).cell? ⟨w.heap.size, 5, none⟩ = some (.int .i64 s.tr) := fun n os => cell_grown HX.out.lt (HX.out.cell 5) n os
  have c6 : ∀ n os, (grow (W0.drewN n) os).cell? ⟨w.heap.size, 6, none⟩ = some (.bool s.out) := fun n os => cell_grown HX.out.lt (HX.out.cell 6) n os
  have c7 : ∀ n os, (grow (W0.drewN n) os).cell? ⟨w.heap.size, 7, none⟩ = some (.int .i64 s.at_) := fun n os => cell_grown HX.out.lt (HX.out.cell 7) n os
  have c8 : ∀ n os, (grow (W0.drewN n) os).cell? ⟨w.heap.size, 8, none⟩ = some (.int .i64 s.sk) := fun n os => cell_grown HX.out.lt (HX.out.cell 8) n os
  go_quiet_grown (first
    | (go_at_call 29; with_reducible exact Calls.grown_of (HN0.out _))
    | (go_at_call 28; with_reducible exact Calls.grown_of (HN1.out _))
    | (go_at_call 29; with_reducible exact Calls.grown_of (HN2.out _))
    | (go_at_call 29; with_reducible exact Calls.grown_of (HN3.out _))
    | (go_at_call 29; with_reducible exact Calls.grown_of (HN4.out _))
    | (go_at_call 29; with_reducible exact Calls.grown_of (HN5.out _))
    | (go_at_call 49; with_reducible exact Calls.grown_of (HN6.out _))
    | (go_at_call 29; with_reducible exact Calls.grown_of (HN7.out _))
    | (go_at_call 29; with_reducible exact Calls.grown_of (HN8.out _)))
  go_wp2_with fail
  go_ret
  exact ⟨by rw [← HB.out]; rfl, HM.out.trans (made_grow _ _ _)⟩
end Go.Proofs.Ytihkadbcjeohjaa.Co

namespace Go.Proofs.Ytihkadbcjeohjaa.Co
open Go.RowKit Go.Sort
open Go.Proofs.Ytihkadbcjeohjaa.El
open Go.Proofs.Ytihkadbcjeohjaa.Df
open Go.Proofs.Ytihkadbcjeohjaa.Bo (P Made ret_int ret_bool)
open Go.Proofs.Ytihkadbcjeohjaa.Sa (Sg Rp)

set_option maxHeartbeats 8000000 in
set_option maxRecDepth 100000 in
theorem rdef_s (nm : ByteArray) (dl : Int) (A : Option Addr) (c : Nat) (ss : List Stp) (n : Nat) (w : World) (hn : n = ss.length) (hM : Mod nm ss) (hS : Df.Steps w w.heap.size A ss) :
    Calls Try.prog 10 #[.agg #[.string nm, .int .i64 dl, .slice A n c]] w fun e w' => e = .returned (.string (sb (defF nm dl ss))) ∧ Made w w' := by
  have hn4 : n ≤ 1000 := by have := hM.2.1; omega
  have hnm : nm.size ≤ 1000000 := hM.1
  have hsl := hM.le
  obtain ⟨b0, hb0⟩ : ∃ b, b = sb (tF nm) := ⟨_, rfl⟩
  have HN0 : Hid (∀ W, Calls Try.prog 28 #[.string nm] W fun e w2 => e = .returned (.string b0) ∧ Made W w2) := Lib.hid fun W => by rw [hb0]; exact rtext_s nm W (by omega)
  have hz0 : b0.size = 8 + (nm).size := by rw [hb0, sb_size, tF_len]
  obtain ⟨b1, hb1⟩ : ∃ b, b = sb (nF dl) := ⟨_, rfl⟩
  have HN1 : Hid (∀ W, Calls Try.prog 29 #[.int .i64 dl] W fun e w2 => e = .returned (.string b1) ∧ Made W w2) := Lib.hid fun W => by rw [hb1]; exact rnum_s dl W
  have hz1 : b1.size = 8 := by rw [hb1, sb_size, nF_len]
  obtain ⟨b2, hb2⟩ : ∃ b, b = sb (nF (n : Int)) := ⟨_, rfl⟩
  have HN2 : Hid (∀ W, Calls Try.prog 29 #[.int .i64 (n : Int)] W fun e w2 => e = .returned (.string b2) ∧ Made W w2) := Lib.hid fun W => by rw [hb2]; exact rnum_s (n : Int) W
  have hz2 : b2.size = 8 := by rw [hb2, sb_size, nF_len]
  have HB : Hid ((b0 ++ b1) ++ b2 = sb (tF nm ++ (nF dl ++ nF (n : Int)))) := Lib.hid (by
    rw [hb0, hb1, hb2]
    simp only [sb_app, List.append_assoc])
  have hg1 : ¬ 9223372036854775807 < b0.size + b1.size := by omega
  have hg2 : ¬ 9223372036854775807 < b0.size + b1.size + b2.size := by omega
  clear hb0 hb1 hb2 hz0 hz1 hz2
  have mixed : Try.prog.follows .mixedOrders = true := by kernel_rfl
  have HX := Lib.hid (Box.new w 24 #[.string nm, .int .i64 dl, .slice A n c])
  have HM := Lib.hid (Made.alloc w (.cells #[.string nm, .int .i64 dl, .slice A n c] 24))
  have HS := Lib.hid hS
  have HN := Lib.hid hn
  have HMd := Lib.hid hM
  clear hS hn hM
  go_enter Try.func10, Try.ntmps10
  go_upto_region 1 with fail
  generalize w.alloc (.cells #[.string nm, .int .i64 dl, .slice A n c] 24) = W0 at *
  have c0 : ∀ n os, (grow (W0.drewN n) os).cell? ⟨w.heap.size, 0, none⟩ = some (.string nm) := fun n os => cell_grown HX.out.lt (HX.out.cell 0) n os
  have c1 : ∀ n os, (grow (W0.drewN n) os).cell? ⟨w.heap.size, 1, none⟩ = some (.int .i64 dl) := fun n os => cell_grown HX.out.lt (HX.out.cell 1) n os
  have c2 : ∀ m os, (grow (W0.drewN m) os).cell? ⟨w.heap.size, 2, none⟩ = some (.slice A n c) := fun m os => cell_grown HX.out.lt (HX.out.cell 2) m os
  go_quiet_grown (first
    | (go_at_call 28; with_reducible exact Calls.grown_of (HN0.out _))
    | (go_at_call 29; with_reducible exact Calls.grown_of (HN1.out _))
    | (go_at_call 29; with_reducible exact Calls.grown_of (HN2.out _)))
  have HM1 := Lib.hid (HM.out.trans (made_grow W0 nq osq))
  have HX1 := Lib.hid (Bo.Box.made HX.out (made_grow W0 nq osq))
  generalize grow (W0.drewN nq) osq = W1 at *
  clear c0 c1 c2 HM HX
  obtain ⟨T, hT⟩ : ∃ T, T = (b0 ++ b1) ++ b2 := ⟨_, rfl⟩
  have hTs : T.size ≤ 10000000 := by rw [hT, HB.out, sb_size]; simp only [List.length_append, tF_len, nF_len]; omega
  rw [← hT] at HB ⊢
  have HT0 : Hid (T = sb (tF nm ++ (nF dl ++ nF (n : Int)) ++ stepsF (ss.take 0))) := Lib.hid (by rw [HB.out, List.take_zero, show stepsF [] = [] from rfl, List.append_nil])
  clear hT hg1 hg2 HN0 HN1 HN2
  go_wp2_with fail
  go_loopw [3, 4] (fun vs vi wr => ∃ (k : Nat) (Sx : ByteArray), vi = .int .i64 (k : Int) ∧ vs = .string Sx ∧ k ≤ n ∧ Hid (Sx = sb (tF nm ++ (nF dl ++ nF (n : Int)) ++ stepsF (ss.take k))) ∧ Hid (Made w wr) ∧ Hid (Box wr w.heap.size 24 #[.string nm, .int .i64 dl, .slice A n c])) (fun _ vi _ => n - (intOf vi).toNat)
  case atStart => exact ⟨0, T, rfl, rfl, Nat.zero_le _, HT0, HM1, HX1⟩
  case round =>
    obtain ⟨k, Sx, rfl, rfl, hk, HSx, HMr, HXr⟩ := hrel
    clear HT0 HM1 HX1
    have e2 : wr.cell? ⟨w.heap.size, 2, none⟩ = some (.slice A n c) := HXr.out.cell 2
    by_cases hkn : k < n
    · obtain ⟨x, hx⟩ : ∃ x, ss[k]? = some x := ⟨_, List.getElem?_eq_getElem (by have := HN.out; omega)⟩
      obtain ⟨b, o, rfl, hbl⟩ := HS.out.at_ hx
      have HSr := Lib.hid (HS.out.on HMr.out.below)
      have c0 : (wr).cell? ⟨b, o + k * 12, none⟩ = some (.string x.nm) := HSr.out.get hx 0 rfl
      have c1 : (wr).cell? ⟨b, o + k * 12 + 1, none⟩ = some (.string x.pt) := HSr.out.get hx 1 rfl
      have c2 : (wr).cell? ⟨b, o + k * 12 + 2, none⟩ = some (.int .i64 x.tm) := HSr.out.get hx 2 rfl
      have c3 : (wr).cell? ⟨b, o + k * 12 + 3, none⟩ = some (.int .i64 x.t.r) := HSr.out.get hx 3 rfl
      have c4 : (wr).cell? ⟨b, o + k * 12 + 4, none⟩ = some (.int .i64 x.t.b) := HSr.out.get hx 4 rfl
      have c5 : (wr).cell? ⟨b, o + k * 12 + 5, none⟩ = some (.int .i64 x.t.f) := HSr.out.get hx 5 rfl
      have c6 : (wr).cell? ⟨b, o + k * 12 + 6, none⟩ = some (.int .i64 x.t.c) := HSr.out.get hx 6 rfl
      have c7 : (wr).cell? ⟨b, o + k * 12 + 7, none⟩ = some (.int .i64 x.u.r) := HSr.out.get hx 7 rfl
      have c8 : (wr).cell? ⟨b, o + k * 12 + 8, none⟩ = some (.int .i64 x.u.b) := HSr.out.get hx 8 rfl
      have c9 : (wr).cell? ⟨b, o + k * 12 + 9, none⟩ = some (.int .i64 x.u.f) := HSr.out.get hx 9 rfl
      have c10 : (wr).cell? ⟨b, o + k * 12 + 10, none⟩ = some (.int .i64 x.u.c) := HSr.out.get hx 10 rfl
      have c11 : (wr).cell? ⟨b, o + k * 12 + 11, none⟩ = some (.int .i64 x.pr) := HSr.out.get hx 11 rfl
      have HTk := Lib.hid (stepsF_take ss hx)
      obtain ⟨hx1, hx2⟩ := HMd.out.2.2 x (List.mem_of_getElem? hx)
      have hpl := stepsF_part (ss := ss) k
      have hSs : Sx.size ≤ 3000000000 := by rw [HSx.out, sb_size]; simp only [List.length_append, tF_len, nF_len]; omega
      clear hx hpl
      obtain ⟨xb0, hxb0⟩ : ∃ b, b = sb (tF x.nm) := ⟨_, rfl⟩
      have xHN0 : Hid (∀ W, Calls Try.prog 28 #[.string x.nm] W fun e w2 => e = .returned (.string xb0) ∧ Made W w2) := Lib.hid fun W => by rw [hxb0]; exact rtext_s x.nm W (by omega)
      have xhz0 : xb0.size = 8 + (x.nm).size := by rw [hxb0, sb_size, tF_len]
      obtain ⟨xb1, hxb1⟩ : ∃ b, b = sb (tF x.pt) := ⟨_, rfl⟩
      have xHN1 : Hid (∀ W, Calls Try.prog 28 #[.string x.pt] W fun e w2 => e = .returned (.string xb1) ∧ Made W w2) := Lib.hid fun W => by rw [hxb1]; exact rtext_s x.pt W (by omega)
      have xhz1 : xb1.size = 8 + (x.pt).size := by rw [hxb1, sb_size, tF_len]
      obtain ⟨xb2, hxb2⟩ : ∃ b, b = sb (nF x.tm) := ⟨_, rfl⟩
      have xHN2 : Hid (∀ W, Calls Try.prog 29 #[.int .i64 x.tm] W fun e w2 => e = .returned (.string xb2) ∧ Made W w2) := Lib.hid fun W => by rw [hxb2]; exact rnum_s x.tm W
      have xhz2 : xb2.size = 8 := by rw [hxb2, sb_size, nF_len]
      obtain ⟨xb3, hxb3⟩ : ∃ b, b = sb (planF x.t) := ⟨_, rfl⟩
      have xHN3 : Hid (∀ W, Calls Try.prog 30 #[.agg #[.int .i64 x.t.r, .int .i64 x.t.b, .int .i64 x.t.f, .int .i64 x.t.c]] W fun e w2 => e = .returned (.string xb3) ∧ Made W w2) := Lib.hid fun W => by rw [hxb3]; exact rplan_s x.t W
      have xhz3 : xb3.size = 32 := by rw [hxb3, sb_size, planF_len]
      obtain ⟨xb4, hxb4⟩ : ∃ b, b = sb (planF x.u) := ⟨_, rfl⟩
      have xHN4 : Hid (∀ W, Calls Try.prog 30 #[.agg #[.int .i64 x.u.r, .int .i64 x.u.b, .int .i64 x.u.f, .int .i64 x.u.c]] W fun e w2 => e = .returned (.string xb4) ∧ Made W w2) := Lib.hid fun W => by rw [hxb4]; exact rplan_s x.u W
      have xhz4 : xb4.size = 32 := by rw [hxb4, sb_size, planF_len]
      obtain ⟨xb5, hxb5⟩ : ∃ b, b = sb (nF x.pr) := ⟨_, rfl⟩
      have xHN5 : Hid (∀ W, Calls Try.prog 29 #[.int .i64 x.pr] W fun e w2 => e = .returned (.string xb5) ∧ Made W w2) := Lib.hid fun W => by rw [hxb5]; exact rnum_s x.pr W
      have xhz5 : xb5.size = 8 := by rw [hxb5, sb_size, nF_len]
      have HBx : Hid ((((((Sx ++ xb0) ++ xb1) ++ xb2) ++ xb3) ++ xb4) ++ xb5 = sb (tF nm ++ (nF dl ++ nF (n : Int)) ++ stepsF (ss.take (k + 1)))) := Lib.hid (by
        rw [hxb0, hxb1, hxb2, hxb3, hxb4, hxb5, HSx.out, HTk.out]
        unfold stepF
        simp only [sb_app, List.append_assoc])
      have xg0 : ¬ 9223372036854775807 < Sx.size + xb0.size := by omega
      have xg1 : ¬ 9223372036854775807 < Sx.size + xb0.size + xb1.size := by omega
      have xg2 : ¬ 9223372036854775807 < Sx.size + xb0.size + xb1.size + xb2.size := by omega
      have xg3 : ¬ 9223372036854775807 < Sx.size + xb0.size + xb1.size + xb2.size + xb3.size := by omega
      have xg4 : ¬ 9223372036854775807 < Sx.size + xb0.size + xb1.size + xb2.size + xb3.size + xb4.size := by omega
      have xg5 : ¬ 9223372036854775807 < Sx.size + xb0.size + xb1.size + xb2.size + xb3.size + xb4.size + xb5.size := by omega
      clear hxb0 hxb1 hxb2 hxb3 hxb4 hxb5 xhz0 xhz1 xhz2 xhz3 xhz4 xhz5 hx1 hx2
      go_upto_region 6 with fail
      have HXs := Lib.hid (Box.new wr 67 #[.string x.nm, .string x.pt, .int .i64 x.tm, .int .i64 x.t.r, .int .i64 x.t.b, .int .i64 x.t.f, .int .i64 x.t.c, .int .i64 x.u.r, .int .i64 x.u.b, .int .i64 x.u.f, .int .i64 x.u.c, .int .i64 x.pr])
      have HMs := Lib.hid (Made.alloc wr (.cells #[.string x.nm, .string x.pt, .int .i64 x.tm, .int .i64 x.t.r, .int .i64 x.t.b, .int .i64 x.t.f, .int .i64 x.t.c, .int .i64 x.u.r, .int .i64 x.u.b, .int .i64 x.u.f, .int .i64 x.u.c, .int .i64 x.pr] 67))
      clear c0 c1 c2 c3 c4 c5 c6 c7 c8 c9 c10 c11 e2
      generalize wr.alloc (.cells #[.string x.nm, .string x.pt, .int .i64 x.tm, .int .i64 x.t.r, .int .i64 x.t.b, .int .i64 x.t.f, .int .i64 x.t.c, .int .i64 x.u.r, .int .i64 x.u.b, .int .i64 x.u.f, .int .i64 x.u.c, .int .i64 x.pr] 67) = W2 at *
      have d0 : ∀ n os, (grow (W2.drewN n) os).cell? ⟨wr.heap.size, 0, none⟩ = some (.string x.nm) := fun n os => cell_grown HXs.out.lt (HXs.out.cell 0) n os
      have d1 : ∀ n os, (grow (W2.drewN n) os).cell? ⟨wr.heap.size, 1, none⟩ = some (.string x.pt) := fun n os => cell_grown HXs.out.lt (HXs.out.cell 1) n os
      have d2 : ∀ n os, (grow (W2.drewN n) os).cell? ⟨wr.heap.size, 2, none⟩ = some (.int .i64 x.tm) := fun n os => cell_grown HXs.out.lt (HXs.out.cell 2) n os
      have d3 : ∀ n os, (grow (W2.drewN n) os).cell? ⟨wr.heap.size, 3, none⟩ = some (.int .i64 x.t.r) := fun n os => cell_grown HXs.out.lt (HXs.out.cell 3) n os
      have d4 : ∀ n os, (grow (W2.drewN n) os).cell? ⟨wr.heap.size, 4, none⟩ = some (.int .i64 x.t.b) := fun n os => cell_grown HXs.out.lt (HXs.out.cell 4) n os
      have d5 : ∀ n os, (grow (W2.drewN n) os).cell? ⟨wr.heap.size, 5, none⟩ = some (.int .i64 x.t.f) := fun n os => cell_grown HXs.out.lt (HXs.out.cell 5) n os
      have d6 : ∀ n os, (grow (W2.drewN n) os).cell? ⟨wr.heap.size, 6, none⟩ = some (.int .i64 x.t.c) := fun n os => cell_grown HXs.out.lt (HXs.out.cell 6) n os
      have d7 : ∀ n os, (grow (W2.drewN n) os).cell? ⟨wr.heap.size, 7, none⟩ = some (.int .i64 x.u.r) := fun n os => cell_grown HXs.out.lt (HXs.out.cell 7) n os
      have d8 : ∀ n os, (grow (W2.drewN n) os).cell? ⟨wr.heap.size, 8, none⟩ = some (.int .i64 x.u.b) := fun n os => cell_grown HXs.out.lt (HXs.out.cell 8) n os
      have d9 : ∀ n os, (grow (W2.drewN n) os).cell? ⟨wr.heap.size, 9, none⟩ = some (.int .i64 x.u.f) := fun n os => cell_grown HXs.out.lt (HXs.out.cell 9) n os
      have d10 : ∀ n os, (grow (W2.drewN n) os).cell? ⟨wr.heap.size, 10, none⟩ = some (.int .i64 x.u.c) := fun n os => cell_grown HXs.out.lt (HXs.out.cell 10) n os
      have d11 : ∀ n os, (grow (W2.drewN n) os).cell? ⟨wr.heap.size, 11, none⟩ = some (.int .i64 x.pr) := fun n os => cell_grown HXs.out.lt (HXs.out.cell 11) n os
      go_quiet_grown (first
        | (go_at_call 28; with_reducible exact Calls.grown_of (xHN0.out _))
        | (go_at_call 28; with_reducible exact Calls.grown_of (xHN1.out _))
        | (go_at_call 29; with_reducible exact Calls.grown_of (xHN2.out _))
        | (go_at_call 30; with_reducible exact Calls.grown_of (xHN3.out _))
        | (go_at_call 30; with_reducible exact Calls.grown_of (xHN4.out _))
        | (go_at_call 29; with_reducible exact Calls.grown_of (xHN5.out _)))
      have HM3 := Lib.hid ((HMr.out.trans HMs.out).trans (made_grow W2 nq osq))
      have HX3 := Lib.hid (Bo.Box.made (Bo.Box.made HXr.out HMs.out) (made_grow W2 nq osq))
      generalize grow (W2.drewN nq) osq = W3 at *
      clear d0 d1 d2 d3 d4 d5 d6 d7 d8 d9 d10 d11
      go_wp2_with fail
      go_roundw
      case rel => exact ⟨k + 1, _, by go_num, rfl, by omega, HBx, HM3, HX3⟩
      case measure => simp only [intOf]; omega
    · have hk2 : k = n := by omega
      go_wp2
      go_ret
      refine ⟨?_, HMr.out⟩
      have e : Sx = sb (defF nm dl ss) := by
        rw [HSx.out, hk2, HN.out, List.take_length]
        unfold defF
        simp only [List.append_assoc]
      rw [← e]
      rfl
end Go.Proofs.Ytihkadbcjeohjaa.Co

namespace Go.Proofs.Ytihkadbcjeohjaa.Co
open Go.RowKit Go.Sort
open Go.Proofs.Ytihkadbcjeohjaa.El
open Go.Proofs.Ytihkadbcjeohjaa.Df
open Go.Proofs.Ytihkadbcjeohjaa.Bo (P Made ret_int ret_bool)
open Go.Proofs.Ytihkadbcjeohjaa.Sa (Sg Rp)

set_option maxHeartbeats 8000000 in
set_option maxRecDepth 100000 in
theorem revent_s (v : Ev) (A : Option Addr) (n c : Nat) (w : World) (h : EvIn w v A n c) : Calls Try.prog 25 #[.agg #[.int .i64 v.k, .int .i64 v.now, .int .i64 v.sg, .string v.nm, .int .i64 v.r.sg, .int .i64 v.r.sp, .bool v.r.un, .int .i64 v.r.tr, .bool v.r.good, .string v.dn, .int .i64 v.dl, .slice A n c]] w fun e w' => e = .returned (.string (sb (eventF v))) ∧ Made w w' := by
  have HI := Lib.hid h
  have HX := Lib.hid (Box.new w 51 #[.int .i64 v.k, .int .i64 v.now, .int .i64 v.sg, .string v.nm, .int .i64 v.r.sg, .int .i64 v.r.sp, .bool v.r.un, .int .i64 v.r.tr, .bool v.r.good, .string v.dn, .int .i64 v.dl, .slice A n c])
  have HM := Lib.hid (Made.alloc w (.cells #[.int .i64 v.k, .int .i64 v.now, .int .i64 v.sg, .string v.nm, .int .i64 v.r.sg, .int .i64 v.r.sp, .bool v.r.un, .int .i64 v.r.tr, .bool v.r.good, .string v.dn, .int .i64 v.dl, .slice A n c] 51))
  obtain ⟨b0, hb0⟩ : ∃ b, b = sb (nF v.k) := ⟨_, rfl⟩
  have HNb0 : Hid (∀ W, Calls Try.prog 29 #[.int .i64 v.k] W fun e w2 => e = .returned (.string b0) ∧ Made W w2) := Lib.hid fun W => by rw [hb0]; exact rnum_s v.k W
  have zb0 : b0.size = 8 := by rw [hb0, sb_size, nF_len]
  obtain ⟨b1, hb1⟩ : ∃ b, b = sb (nF v.now) := ⟨_, rfl⟩
  have HNb1 : Hid (∀ W, Calls Try.prog 29 #[.int .i64 v.now] W fun e w2 => e = .returned (.string b1) ∧ Made W w2) := Lib.hid fun W => by rw [hb1]; exact rnum_s v.now W
  have zb1 : b1.size = 8 := by rw [hb1, sb_size, nF_len]
  obtain ⟨b2, hb2⟩ : ∃ b, b = sb (nF v.sg) := ⟨_, rfl⟩
  have HNb2 : Hid (∀ W, Calls Try.prog 29 #[.int .i64 v.sg] W fun e w2 => e = .returned (.string b2) ∧ Made W w2) := Lib.hid fun W => by rw [hb2]; exact rnum_s v.sg W
  have zb2 : b2.size = 8 := by rw [hb2, sb_size, nF_len]
  obtain ⟨h0, hh0⟩ : ∃ b, b = b0 ++ b1 ++ b2 := ⟨_, rfl⟩
  have HH0 := Lib.hid hh0
  have HH : Hid (h0 = sb (nF v.k ++ (nF v.now ++ nF v.sg))) := Lib.hid (by rw [hh0, hb0, hb1, hb2]; simp only [sb_app, List.append_assoc])
  have zh : h0.size = 24 := by rw [HH.out, sb_size]; simp only [List.length_append, nF_len]
  have HE : Hid (sb (eventF v) = sb ((nF v.k ++ (nF v.now ++ nF v.sg)) ++ restF v)) := Lib.hid (by unfold eventF; simp only [List.append_assoc])
  have hg1 : ¬ 9223372036854775807 < b0.size + b1.size := by omega
  have hg2 : ¬ 9223372036854775807 < b0.size + b1.size + b2.size := by omega
  have mixed : Try.prog.follows .mixedOrders = true := by kernel_rfl
  clear h hh0 hb0 hb1 hb2 zb0 zb1 zb2
  go_enter Try.func25, Try.ntmps25
  go_upto_region 1 with fail
  generalize w.alloc (.cells #[.int .i64 v.k, .int .i64 v.now, .int .i64 v.sg, .string v.nm, .int .i64 v.r.sg, .int .i64 v.r.sp, .bool v.r.un, .int .i64 v.r.tr, .bool v.r.good, .string v.dn, .int .i64 v.dl, .slice A n c] 51) = W0 at *
  go_cut [3] from 4 to 14 (fun x wx => x = .string h0 ∧ Hid (Made W0 wx))
  case first => as_aux_lemma =>
    have g0 : ∀ n os, (grow (W0.drewN n) os).cell? ⟨w.heap.size, 0, none⟩ = some (.int .i64 v.k) := fun n os => cell_grown HX.out.lt (HX.out.cell 0) n os
    have g1 : ∀ n os, (grow (W0.drewN n) os).cell? ⟨w.heap.size, 1, none⟩ = some (.int .i64 v.now) := fun n os => cell_grown HX.out.lt (HX.out.cell 1) n os
    have g2 : ∀ n os, (grow (W0.drewN n) os).cell? ⟨w.heap.size, 2, none⟩ = some (.int .i64 v.sg) := fun n os => cell_grown HX.out.lt (HX.out.cell 2) n os
    go_quiet_grown (first
      | (go_at_call 29; with_reducible exact Calls.grown_of (HNb0.out _))
      | (go_at_call 29; with_reducible exact Calls.grown_of (HNb1.out _))
      | (go_at_call 29; with_reducible exact Calls.grown_of (HNb2.out _)))
    go_wp2_with fail
    go_meet
    exact ⟨by rw [HH0.out], Lib.hid (made_grow _ _ _)⟩
  case rest =>
    obtain ⟨rfl, HMc⟩ := hcut
    have HXx := Lib.hid (Bo.Box.made HX.out HMc.out)
    have HMx := Lib.hid (HM.out.trans HMc.out)
    have HBx := Lib.hid HMx.out.below
    clear HMc HX HM HNb0 HNb1 HNb2 hg1 hg2 HH0
    obtain ⟨c0, c1, c2, c3, c4, c5, c6, c7, c8, c9, c10, c11⟩ := evc (v := v) HXx.out
    by_cases hk0 : v.k = 0
    · as_aux_lemma =>
      have k0 : (v.k == 0) = true := beq_iff_eq.2 hk0
      have HRs : Hid (restF v = defF v.dn v.dl v.ss) := Lib.hid (by unfold restF; rw [if_pos hk0])
      obtain ⟨bd, hbd⟩ : ∃ b, b = sb (defF v.dn v.dl v.ss) := ⟨_, rfl⟩
      have HDf : Hid (∀ W, Below w.heap.size w W → Calls Try.prog 10 #[.agg #[.string v.dn, .int .i64 v.dl, .slice A n c]] W fun e w' => e = .returned (.string bd) ∧ Made W w') := Lib.hid fun W h => by rw [hbd]; exact rdef_s v.dn v.dl A c v.ss n W HI.out.hn HI.out.mod (HI.out.on h).st
      have HB : Hid (sb (eventF v) = h0 ++ bd) := Lib.hid (by rw [HE.out, HH.out, HRs.out, hbd, sb_app])
      have hgd : ¬ 9223372036854775807 < h0.size + bd.size := by rw [hbd, sb_size, defF_len]; have := HI.out.mod.le; have := HI.out.mod.1; omega
      clear hbd hk0
      go_wp2_with fail
      refine (HDf.out _ HBx.out).mono ?_
      rintro e w2 ⟨rfl, hm⟩
      go_wp2_with fail
      go_ret
      exact ⟨by rw [HB.out]; rfl, HMx.out.trans hm⟩
    by_cases hk1 : v.k = 1
    · as_aux_lemma =>
      have k0 : (v.k == 0) = false := beq_false_of_ne hk0
      have k1 : (v.k == 1) = true := beq_iff_eq.2 hk1
      have HRs : Hid (restF v = tF v.nm) := Lib.hid (by unfold restF; rw [if_neg hk0, if_pos hk1])
      obtain ⟨bd, hbd⟩ : ∃ b, b = sb (tF v.nm) := ⟨_, rfl⟩
      have HDf : Hid (∀ W, Calls Try.prog 28 #[.string v.nm] W fun e w' => e = .returned (.string bd) ∧ Made W w') := Lib.hid fun W => by rw [hbd]; exact rtext_s v.nm W (by have := HI.out.nm; omega)
      have HB : Hid (sb (eventF v) = h0 ++ bd) := Lib.hid (by rw [HE.out, HH.out, HRs.out, hbd, sb_app])
      have hgd : ¬ 9223372036854775807 < h0.size + bd.size := by rw [hbd, sb_size, tF_len]; have := HI.out.nm; omega
      clear hbd hk0 hk1
      go_wp2_with fail
      refine (HDf.out _).mono ?_
      rintro e w2 ⟨rfl, hm⟩
      go_wp2_with fail
      go_ret
      exact ⟨by rw [HB.out]; rfl, HMx.out.trans hm⟩
    by_cases hk3 : v.k = 3
    · as_aux_lemma =>
      have k0 : (v.k == 0) = false := beq_false_of_ne hk0
      have k1 : (v.k == 1) = false := beq_false_of_ne hk1
      have k3 : (v.k == 3) = true := beq_iff_eq.2 hk3
      have HRs : Hid (restF v = replyF v.r) := Lib.hid (by unfold restF; rw [if_neg hk0, if_neg hk1, if_pos hk3])
      obtain ⟨r0, hr0⟩ : ∃ b, b = sb (nF v.r.sg) := ⟨_, rfl⟩
      have HNr0 : Hid (∀ W, Calls Try.prog 29 #[.int .i64 v.r.sg] W fun e w2 => e = .returned (.string r0) ∧ Made W w2) := Lib.hid fun W => by rw [hr0]; exact rnum_s v.r.sg W
      have zr0 : r0.size = 8 := by rw [hr0, sb_size, nF_len]
      obtain ⟨r1, hr1⟩ : ∃ b, b = sb (nF v.r.sp) := ⟨_, rfl⟩
      have HNr1 : Hid (∀ W, Calls Try.prog 29 #[.int .i64 v.r.sp] W fun e w2 => e = .returned (.string r1) ∧ Made W w2) := Lib.hid fun W => by rw [hr1]; exact rnum_s v.r.sp W
      have zr1 : r1.size = 8 := by rw [hr1, sb_size, nF_len]
      obtain ⟨r2, hr2⟩ : ∃ b, b = sb (fF v.r.un) := ⟨_, rfl⟩
      have HNr2 : Hid (∀ W, Calls Try.prog 49 #[.bool v.r.un] W fun e w2 => e = .returned (.string r2) ∧ Made W w2) := Lib.hid fun W => by rw [hr2]; exact rflag_s v.r.un W
      have zr2 : r2.size = 1 := by rw [hr2, sb_size, fF_len]
      obtain ⟨r3, hr3⟩ : ∃ b, b = sb (nF v.r.tr) := ⟨_, rfl⟩
      have HNr3 : Hid (∀ W, Calls Try.prog 29 #[.int .i64 v.r.tr] W fun e w2 => e = .returned (.string r3) ∧ Made W w2) := Lib.hid fun W => by rw [hr3]; exact rnum_s v.r.tr W
      have zr3 : r3.size = 8 := by rw [hr3, sb_size, nF_len]
      obtain ⟨r4, hr4⟩ : ∃ b, b = sb (fF v.r.good) := ⟨_, rfl⟩
      have HNr4 : Hid (∀ W, Calls Try.prog 49 #[.bool v.r.good] W fun e w2 => e = .returned (.string r4) ∧ Made W w2) := Lib.hid fun W => by rw [hr4]; exact rflag_s v.r.good W
      have zr4 : r4.size = 1 := by rw [hr4, sb_size, fF_len]
      have HB : Hid (sb (eventF v) = (((((h0 ++ r0) ++ r1) ++ r2) ++ r3) ++ r4)) := Lib.hid (by
        rw [HE.out, HH.out, HRs.out, hr0, hr1, hr2, hr3, hr4]
        simp only [sb_app]
        unfold replyF
        simp only [List.append_assoc])
      have hg0 : ¬ 9223372036854775807 < h0.size + r0.size := by omega
      have hg1 : ¬ 9223372036854775807 < h0.size + r0.size + r1.size := by omega
      have hg2 : ¬ 9223372036854775807 < h0.size + r0.size + r1.size + r2.size := by omega
      have hg3 : ¬ 9223372036854775807 < h0.size + r0.size + r1.size + r2.size + r3.size := by omega
      have hg4 : ¬ 9223372036854775807 < h0.size + r0.size + r1.size + r2.size + r3.size + r4.size := by omega
      clear hr0 zr0 hr1 zr1 hr2 zr2 hr3 zr3 hr4 zr4 zh hk0 hk1 hk3
      go_upto_region 7 with fail
      clear c0 c1 c2 c3 c4 c5 c6 c7 c8 c9 c10 c11
      have g4 : ∀ n os, (grow (wc.drewN n) os).cell? ⟨w.heap.size, 4, none⟩ = some (.int .i64 v.r.sg) := fun n os => cell_grown HXx.out.lt (HXx.out.cell 4) n os
      have g5 : ∀ n os, (grow (wc.drewN n) os).cell? ⟨w.heap.size, 5, none⟩ = some (.int .i64 v.r.sp) := fun n os => cell_grown HXx.out.lt (HXx.out.cell 5) n os
      have g6 : ∀ n os, (grow (wc.drewN n) os).cell? ⟨w.heap.size, 6, none⟩ = some (.bool v.r.un) := fun n os => cell_grown HXx.out.lt (HXx.out.cell 6) n os
      have g7 : ∀ n os, (grow (wc.drewN n) os).cell? ⟨w.heap.size, 7, none⟩ = some (.int .i64 v.r.tr) := fun n os => cell_grown HXx.out.lt (HXx.out.cell 7) n os
      have g8 : ∀ n os, (grow (wc.drewN n) os).cell? ⟨w.heap.size, 8, none⟩ = some (.bool v.r.good) := fun n os => cell_grown HXx.out.lt (HXx.out.cell 8) n os
      go_quiet_grown (first
        | (go_at_call 29; with_reducible exact Calls.grown_of (HNr0.out _))
        | (go_at_call 29; with_reducible exact Calls.grown_of (HNr1.out _))
        | (go_at_call 49; with_reducible exact Calls.grown_of (HNr2.out _))
        | (go_at_call 29; with_reducible exact Calls.grown_of (HNr3.out _))
        | (go_at_call 49; with_reducible exact Calls.grown_of (HNr4.out _)))
      go_wp2_with fail
      go_ret
      exact ⟨by rw [HB.out]; rfl, HMx.out.trans (made_grow _ _ _)⟩
    have k0 : (v.k == 0) = false := beq_false_of_ne hk0
    have k1 : (v.k == 1) = false := beq_false_of_ne hk1
    have k3 : (v.k == 3) = false := beq_false_of_ne hk3
    have HRs : Hid (restF v = []) := Lib.hid (by unfold restF; rw [if_neg hk0, if_neg hk1, if_neg hk3])
    have HB : Hid (sb (eventF v) = h0) := Lib.hid (by rw [HE.out, HH.out, HRs.out, List.append_nil])
    clear hk0 hk1 hk3
    go_wp2_with fail
    go_ret
    exact ⟨by rw [HB.out]; rfl, HMx.out⟩
set_option maxHeartbeats 8000000 in
set_option maxRecDepth 100000 in
theorem resame_s (v : Ev) (A A' : Option Addr) (n c n' c' : Nat) (w : World) (h : EvIn w v A n c) (h' : EvIn w v A' n' c') : Calls Try.prog 21 #[.agg #[.int .i64 v.k, .int .i64 v.now, .int .i64 v.sg, .string v.nm, .int .i64 v.r.sg, .int .i64 v.r.sp, .bool v.r.un, .int .i64 v.r.tr, .bool v.r.good, .string v.dn, .int .i64 v.dl, .slice A n c], .agg #[.int .i64 v.k, .int .i64 v.now, .int .i64 v.sg, .string v.nm, .int .i64 v.r.sg, .int .i64 v.r.sp, .bool v.r.un, .int .i64 v.r.tr, .bool v.r.good, .string v.dn, .int .i64 v.dl, .slice A' n' c']] w fun e w' => e = .returned (.bool true) ∧ Below w.heap.size w w' := by
  have hbw := (Below.refl w.heap.size w).alloc (Nat.le_refl _) (.cells #[.int .i64 v.k, .int .i64 v.now, .int .i64 v.sg, .string v.nm, .int .i64 v.r.sg, .int .i64 v.r.sp, .bool v.r.un, .int .i64 v.r.tr, .bool v.r.good, .string v.dn, .int .i64 v.dl, .slice A n c] 51)
  have hbx := hbw.alloc hbw.size (.cells #[.int .i64 v.k, .int .i64 v.now, .int .i64 v.sg, .string v.nm, .int .i64 v.r.sg, .int .i64 v.r.sp, .bool v.r.un, .int .i64 v.r.tr, .bool v.r.good, .string v.dn, .int .i64 v.dl, .slice A' n' c'] 51)
  have HX := Lib.hid ((Box.new w 51 #[.int .i64 v.k, .int .i64 v.now, .int .i64 v.sg, .string v.nm, .int .i64 v.r.sg, .int .i64 v.r.sp, .bool v.r.un, .int .i64 v.r.tr, .bool v.r.good, .string v.dn, .int .i64 v.dl, .slice A n c]).alloc (.cells #[.int .i64 v.k, .int .i64 v.now, .int .i64 v.sg, .string v.nm, .int .i64 v.r.sg, .int .i64 v.r.sp, .bool v.r.un, .int .i64 v.r.tr, .bool v.r.good, .string v.dn, .int .i64 v.dl, .slice A' n' c'] 51))
  have HY := Lib.hid (box_new2 w (.cells #[.int .i64 v.k, .int .i64 v.now, .int .i64 v.sg, .string v.nm, .int .i64 v.r.sg, .int .i64 v.r.sp, .bool v.r.un, .int .i64 v.r.tr, .bool v.r.good, .string v.dn, .int .i64 v.dl, .slice A n c] 51) 51 #[.int .i64 v.k, .int .i64 v.now, .int .i64 v.sg, .string v.nm, .int .i64 v.r.sg, .int .i64 v.r.sp, .bool v.r.un, .int .i64 v.r.tr, .bool v.r.good, .string v.dn, .int .i64 v.dl, .slice A' n' c'])
  have HB := Lib.hid hbx
  have HS : Hid (∀ W, Below w.heap.size w W → Calls Try.prog 13 #[.agg #[.string v.dn, .int .i64 v.dl, .slice A n c], .agg #[.string v.dn, .int .i64 v.dl, .slice A' n' c']] W fun e w' => e = .returned (.bool true) ∧ Made W w') := Lib.hid fun W hb => by
    have k := rsame_any v.dn v.dn v.dl v.dl A A' c c' v.ss v.ss n n' W h.hn h'.hn (by have := h.mod.2.1; have := h.hn; omega) (by have := h'.mod.2.1; have := h'.hn; omega) (h.on hb).st (h'.on hb).st
    rw [show sameB v.dn v.dn v.dl v.dl v.ss v.ss = true by unfold sameB; simp] at k
    exact k
  have heq : ∀ u, (binOp .eql 49 (.agg #[.int .i64 v.r.sg, .int .i64 v.r.sp, .bool v.r.un, .int .i64 v.r.tr, .bool v.r.good]) (.agg #[.int .i64 v.r.sg, .int .i64 v.r.sp, .bool v.r.un, .int .i64 v.r.tr, .bool v.r.good])).run Try.prog u = .ok (.bool true) u := fun u => by have k := eql_reply v.r v.r u; rw [eqRp_iff.2 rfl] at k; exact k
  have hgd := guard_reply
  have e0 : (v.k == v.k) = true := by simp
  have e1 : (v.now == v.now) = true := by simp
  have e2 : (v.sg == v.sg) = true := by simp
  clear hbw hbx h h'
  go_enter Try.func21, Try.ntmps21
  go_upto_region 1 with fail
  generalize (w.alloc (.cells #[.int .i64 v.k, .int .i64 v.now, .int .i64 v.sg, .string v.nm, .int .i64 v.r.sg, .int .i64 v.r.sp, .bool v.r.un, .int .i64 v.r.tr, .bool v.r.good, .string v.dn, .int .i64 v.dl, .slice A n c] 51)).alloc (.cells #[.int .i64 v.k, .int .i64 v.now, .int .i64 v.sg, .string v.nm, .int .i64 v.r.sg, .int .i64 v.r.sp, .bool v.r.un, .int .i64 v.r.tr, .bool v.r.good, .string v.dn, .int .i64 v.dl, .slice A' n' c'] 51) = W0 at *
  obtain ⟨c0, c1, c2, c3, c4, c5, c6, c7, c8, c9, c10, c11⟩ := evc (v := v) HX.out
  obtain ⟨y0, y1, y2, y3, y4, y5, y6, y7, y8, y9, y10, y11⟩ := evc (v := v) HY.out
  go_wp2_with fail
  refine (HS.out _ HB.out).mono ?_
  rintro e w2 ⟨rfl, hm⟩
  go_wp2_with fail
  go_ret
  exact ⟨rfl, HB.out.trans (hm.below.mono HB.out.size)⟩
end Go.Proofs.Ytihkadbcjeohjaa.Co

namespace Go.Proofs.Ytihkadbcjeohjaa.Co
open Go.RowKit
open Go.Proofs.Ytihkadbcjeohjaa.El
open Go.Proofs.Ytihkadbcjeohjaa.Df
open Go.Proofs.Ytihkadbcjeohjaa.Bo (P Made ret_int ret_bool)
open Go.Proofs.Ytihkadbcjeohjaa.Sa (Sg Rp)

theorem wr_new1 (w : World) : Wr (w.alloc (.cells #[.slice none 0 0] 71)) w.heap.size w.heap.size [] :=
  ⟨Nat.le_refl _, .slice none 0 0, 71, by decide, Box.new w 71 #[.slice none 0 0], World.ownsRow_nil _ _ _ _⟩
/-- what PutEvent answers of a right event -/
def PutTo (w : World) (L : List UInt8) (e : Ending) (w' : World) : Prop := ∃ A c, e = .returned (.tuple #[.slice A L.length c, .int .i64 0]) ∧ L.length ≤ c ∧ Byt w' w'.heap.size A L ∧ Below w.heap.size w w'
theorem restF_len (v : Ev) (hM : Mod v.dn v.ss) (hn : v.nm.size ≤ 1000000) : (restF v).length ≤ 3000000000 := by
  have h1 := hM.le
  have h2 := hM.1
  unfold restF
  split
  · rw [defF_len]; omega
  · split
    · rw [tF_len]; omega
    · split
      · show 26 ≤ _; omega
      · exact Nat.zero_le _
theorem eventF_len (v : Ev) : (eventF v).length = 24 + (restF v).length := by
  unfold eventF
  simp only [List.length_append, nF_len]
  omega
set_option maxHeartbeats 2000000 in
set_option maxRecDepth 100000 in
theorem putEvent_no (v : Ev) (A : Option Addr) (n c : Nat) (w : World) (h : EvIn w v A n c) (hg : goodE v = false) :
    Calls Try.prog 24 #[.agg #[.int .i64 v.k, .int .i64 v.now, .int .i64 v.sg, .string v.nm, .int .i64 v.r.sg, .int .i64 v.r.sp, .bool v.r.un, .int .i64 v.r.tr, .bool v.r.good, .string v.dn, .int .i64 v.dl, .slice A n c]] w fun e w' => e = .returned (.tuple #[.slice none 0 0, .int .i64 3]) ∧ Below w.heap.size w w' := by
  have HW := Lib.hid ((Below.refl w.heap.size w).alloc (Nat.le_refl _) (.cells #[.int .i64 v.k, .int .i64 v.now, .int .i64 v.sg, .string v.nm, .int .i64 v.r.sg, .int .i64 v.r.sp, .bool v.r.un, .int .i64 v.r.tr, .bool v.r.good, .string v.dn, .int .i64 v.dl, .slice A n c] 51))
  have HX := Lib.hid (Box.new w 51 #[.int .i64 v.k, .int .i64 v.now, .int .i64 v.sg, .string v.nm, .int .i64 v.r.sg, .int .i64 v.r.sp, .bool v.r.un, .int .i64 v.r.tr, .bool v.r.good, .string v.dn, .int .i64 v.dl, .slice A n c])
  have HG := Lib.hid (good_ev v A n c (w.alloc (.cells #[.int .i64 v.k, .int .i64 v.now, .int .i64 v.sg, .string v.nm, .int .i64 v.r.sg, .int .i64 v.r.sp, .bool v.r.un, .int .i64 v.r.tr, .bool v.r.good, .string v.dn, .int .i64 v.dl, .slice A n c] 51)) (h.on HW.out))
  rw [hg] at HG
  clear h hg
  go_enter Try.func24, Try.ntmps24
  go_upto_region 1 with fail
  generalize w.alloc (.cells #[.int .i64 v.k, .int .i64 v.now, .int .i64 v.sg, .string v.nm, .int .i64 v.r.sg, .int .i64 v.r.sp, .bool v.r.un, .int .i64 v.r.tr, .bool v.r.good, .string v.dn, .int .i64 v.dl, .slice A n c] 51) = W0 at *
  obtain ⟨c0, c1, c2, c3, c4, c5, c6, c7, c8, c9, c10, c11⟩ := evc (v := v) HX.out
  go_wp2_with fail
  refine HG.out.mono ?_
  rintro e w1 ⟨rfl, hb⟩
  go_wp2
  go_ret2
  exact ⟨rfl, HW.out.trans (hb.mono HW.out.size)⟩
set_option maxHeartbeats 8000000 in
set_option maxRecDepth 100000 in
theorem putEvent_yes (v : Ev) (A : Option Addr) (n c : Nat) (w : World) (h : EvIn w v A n c) (hg : goodE v = true) :
    Calls Try.prog 24 #[.agg #[.int .i64 v.k, .int .i64 v.now, .int .i64 v.sg, .string v.nm, .int .i64 v.r.sg, .int .i64 v.r.sp, .bool v.r.un, .int .i64 v.r.tr, .bool v.r.good, .string v.dn, .int .i64 v.dl, .slice A n c]] w (PutTo w (eventF v)) := by
  have HW := Lib.hid ((Below.refl w.heap.size w).alloc (Nat.le_refl _) (.cells #[.int .i64 v.k, .int .i64 v.now, .int .i64 v.sg, .string v.nm, .int .i64 v.r.sg, .int .i64 v.r.sp, .bool v.r.un, .int .i64 v.r.tr, .bool v.r.good, .string v.dn, .int .i64 v.dl, .slice A n c] 51))
  have HX := Lib.hid (Box.new w 51 #[.int .i64 v.k, .int .i64 v.now, .int .i64 v.sg, .string v.nm, .int .i64 v.r.sg, .int .i64 v.r.sp, .bool v.r.un, .int .i64 v.r.tr, .bool v.r.good, .string v.dn, .int .i64 v.dl, .slice A n c])
  have HG := Lib.hid (good_ev v A n c (w.alloc (.cells #[.int .i64 v.k, .int .i64 v.now, .int .i64 v.sg, .string v.nm, .int .i64 v.r.sg, .int .i64 v.r.sp, .bool v.r.un, .int .i64 v.r.tr, .bool v.r.good, .string v.dn, .int .i64 v.dl, .slice A n c] 51)) (h.on HW.out))
  have HI0 := Lib.hid h
  have HL := Lib.hid (eventF_len v)
  have HLr := Lib.hid (restF_len v h.mod h.nm)
  rw [hg] at HG
  clear h hg
  go_enter Try.func24, Try.ntmps24
  go_upto_region 1 with fail
  generalize w.alloc (.cells #[.int .i64 v.k, .int .i64 v.now, .int .i64 v.sg, .string v.nm, .int .i64 v.r.sg, .int .i64 v.r.sp, .bool v.r.un, .int .i64 v.r.tr, .bool v.r.good, .string v.dn, .int .i64 v.dl, .slice A n c] 51) = W0 at *
  obtain ⟨c0, c1, c2, c3, c4, c5, c6, c7, c8, c9, c10, c11⟩ := evc (v := v) HX.out
  go_wp2_with fail
  refine HG.out.mono ?_
  rintro e w1 ⟨rfl, hb⟩
  have HW1 := Lib.hid (HW.out.trans (hb.mono HW.out.size))
  have HI := Lib.hid (HI0.out.on HW1.out)
  have HX1 := Lib.hid (HX.out.below hb HX.out.lt)
  have hlt := HX1.out.lt
  clear hb c0 c1 c2 c3 c4 c5 c6 c7 c8 c9 c10 c11 HX HG
  have HR0 := Lib.hid ((WrAt.refl (wr_new1 w1)))
  have HX2 := Lib.hid (HX1.out.alloc (.cells #[.slice none 0 0] 71))
  have HW2 := Lib.hid ((Below.refl w1.heap.size w1).alloc (Nat.le_refl _) (.cells #[.slice none 0 0] 71))
  go_upto_region 4 with fail
  generalize w1.alloc (.cells #[.slice none 0 0] 71) = W2 at *
  obtain ⟨c0, c1, c2, c3, c4, c5, c6, c7, c8, c9, c10, c11⟩ := evc (v := v) HX2.out
  go_wp2_with fail
  refine (nums3_any w1.heap.size w1.heap.size v.k v.now v.sg _ W2 HR0.out.wr (by simp)).mono ?_
  rintro e w2 ⟨rfl, hR⟩
  have HX3 := Lib.hid (hR.kept _ _ _ (show w.heap.size ≠ w1.heap.size by omega) (by decide) HX2.out)
  have HR1 := Lib.hid ((⟨HR0.out.wr, HW2.out, fun i t cs _ _ hb => hb.below HW2.out hb.lt⟩ : WrAt w1 W2 w1.heap.size w1.heap.size []).trans hR)
  clear hR c0 c1 c2 c3 c4 c5 c6 c7 c8 c9 c10 c11 HX1 HX2 HR0 HW2
  obtain ⟨c0, c1, c2, c3, c4, c5, c6, c7, c8, c9, c10, c11⟩ := evc (v := v) HX3.out
  by_cases hk : v.k = 0
  · have HRF : Hid (restF v = defF v.dn v.dl v.ss) := Lib.hid (by unfold restF; rw [if_pos hk])
    have k0 : (v.k == 0) = true := beq_iff_eq.2 (by omega)
    clear hk
    go_wp2_with fail
    refine (wdef_any w1.heap.size w1.heap.size v.dn v.dl A c v.ss n _ w2 HI.out.hn HI.out.mod (HI.out.st.below HR1.out.bel) HR1.out.wr (by simp only [List.length_append, List.length_nil, nF_len]; omega)).mono ?_
    rintro e w3 ⟨rfl, hR⟩
    have HR2 := Lib.hid (HR1.out.trans hR)
    have HR3 := Lib.hid (HR2.out.as (N := eventF v) (by unfold eventF; rw [HRF.out]; simp))
    clear c0 c1 c2 c3 c4 c5 c6 c7 c8 c9 c10 c11 hR HR2
    go_wp2_with fail
    refine (wbytes_any w1.heap.size w1.heap.size (eventF v) _ HR3.out.wr (by have := HL.out; have := HLr.out; omega)).mono ?_
    rintro e w6 ⟨A2, c2, rfl, hc, hy, hb⟩
    have HP : Hid (PutTo w (eventF v) (.returned (.tuple #[.slice A2 (eventF v).length c2, .int .i64 0])) w6) := Lib.hid ⟨A2, c2, rfl, hc, hy, ((HW1.out.trans (HR3.out.bel.mono HW1.out.size)).trans (hb.mono (by have := HR3.out.bel.size; have := HW1.out.size; omega)))⟩
    clear hc hy hb
    go_wp2_with fail
    go_ret2
    exact HP.out
  by_cases hk1 : v.k = 1
  · have HRF : Hid (restF v = tF v.nm) := Lib.hid (by unfold restF; rw [if_neg hk, if_pos hk1])
    have k0 : (v.k == 0) = false := beq_false_of_ne (by omega)
    have k1 : (v.k == 1) = true := beq_iff_eq.2 (by omega)
    clear hk hk1
    go_wp2_with fail
    refine (wtext_at w1.heap.size w1.heap.size v.nm _ w2 HR1.out.wr (by simp only [List.length_append, List.length_nil, nF_len]; omega) (by have := HI.out.nm; omega)).mono ?_
    rintro e w3 ⟨rfl, hR⟩
    have HR2 := Lib.hid (HR1.out.trans hR)
    have HR3 := Lib.hid (HR2.out.as (N := eventF v) (by unfold eventF; rw [HRF.out]; simp))
    clear c0 c1 c2 c3 c4 c5 c6 c7 c8 c9 c10 c11 hR HR2
    go_wp2_with fail
    refine (wbytes_any w1.heap.size w1.heap.size (eventF v) _ HR3.out.wr (by have := HL.out; have := HLr.out; omega)).mono ?_
    rintro e w6 ⟨A2, c2, rfl, hc, hy, hb⟩
    have HP : Hid (PutTo w (eventF v) (.returned (.tuple #[.slice A2 (eventF v).length c2, .int .i64 0])) w6) := Lib.hid ⟨A2, c2, rfl, hc, hy, ((HW1.out.trans (HR3.out.bel.mono HW1.out.size)).trans (hb.mono (by have := HR3.out.bel.size; have := HW1.out.size; omega)))⟩
    clear hc hy hb
    go_wp2_with fail
    go_ret2
    exact HP.out
  by_cases hk3 : v.k = 3
  · have HRF : Hid (restF v = replyF v.r) := Lib.hid (by unfold restF; rw [if_neg hk, if_neg hk1, if_pos hk3])
    have k0 : (v.k == 0) = false := beq_false_of_ne (by omega)
    have k1 : (v.k == 1) = false := beq_false_of_ne (by omega)
    have k3 : (v.k == 3) = true := beq_iff_eq.2 (by omega)
    clear hk hk1 hk3
    go_wp2_with fail
    refine (wreply_any w1.heap.size w1.heap.size v.r _ w2 HR1.out.wr (by simp only [List.length_append, List.length_nil, nF_len]; omega)).mono ?_
    rintro e w3 ⟨rfl, hR⟩
    have HR2 := Lib.hid (HR1.out.trans hR)
    have HR3 := Lib.hid (HR2.out.as (N := eventF v) (by unfold eventF; rw [HRF.out]; simp))
    clear c0 c1 c2 c3 c4 c5 c6 c7 c8 c9 c10 c11 hR HR2
    go_wp2_with fail
    refine (wbytes_any w1.heap.size w1.heap.size (eventF v) _ HR3.out.wr (by have := HL.out; have := HLr.out; omega)).mono ?_
    rintro e w6 ⟨A2, c2, rfl, hc, hy, hb⟩
    have HP : Hid (PutTo w (eventF v) (.returned (.tuple #[.slice A2 (eventF v).length c2, .int .i64 0])) w6) := Lib.hid ⟨A2, c2, rfl, hc, hy, ((HW1.out.trans (HR3.out.bel.mono HW1.out.size)).trans (hb.mono (by have := HR3.out.bel.size; have := HW1.out.size; omega)))⟩
    clear hc hy hb
    go_wp2_with fail
    go_ret2
    exact HP.out
  have HRF : Hid (restF v = []) := Lib.hid (by unfold restF; rw [if_neg hk, if_neg hk1, if_neg hk3])
  have k0 : (v.k == 0) = false := beq_false_of_ne (by omega)
  have k1 : (v.k == 1) = false := beq_false_of_ne (by omega)
  have k3 : (v.k == 3) = false := beq_false_of_ne (by omega)
  clear hk hk1 hk3
  have HR2 := HR1
  have HR3 := Lib.hid (HR2.out.as (N := eventF v) (by unfold eventF; rw [HRF.out]; simp))
  clear HR2
  go_wp2_with fail
  refine (wbytes_any w1.heap.size w1.heap.size (eventF v) _ HR3.out.wr (by have := HL.out; have := HLr.out; omega)).mono ?_
  rintro e w6 ⟨A2, c2, rfl, hc, hy, hb⟩
  have HP : Hid (PutTo w (eventF v) (.returned (.tuple #[.slice A2 (eventF v).length c2, .int .i64 0])) w6) := Lib.hid ⟨A2, c2, rfl, hc, hy, ((HW1.out.trans (HR3.out.bel.mono HW1.out.size)).trans (hb.mono (by have := HR3.out.bel.size; have := HW1.out.size; omega)))⟩
  clear hc hy hb
  go_wp2_with fail
  go_ret2
  exact HP.out
end Go.Proofs.Ytihkadbcjeohjaa.Co

namespace Go.Proofs.Ytihkadbcjeohjaa.Co
open Go.ChangeShapes Go.WideShapes Go.ChangeAt Go.RowKit
open Go.Proofs.Ytihkadbcjeohjaa.El
open Go.Proofs.Ytihkadbcjeohjaa.Df
open Go.Proofs.Ytihkadbcjeohjaa.Bo (P Made ret_int ret_bool)
open Go.Proofs.Ytihkadbcjeohjaa.Sa (Sg Rp)

theorem cellsRp : Try.prog.cellsOf 49 = 5 := by kernel_rfl
theorem cellsEv : Try.prog.cellsOf 51 = 12 := by kernel_rfl
theorem u16_wf {x : Int} (h : (Lit.int .u16 x).wf = true) : 0 ≤ x ∧ x ≤ 65535 := by
  have h1 : IntKind.u16.min = 0 := rfl
  have h2 : IntKind.u16.max = 65535 := rfl
  simp only [Lit.wf, Bool.and_eq_true, decide_eq_true_eq] at h
  omega
section
variable {H : Type} {enc : TypeId × Value → H} {W : World}
set_option maxRecDepth 100000 in
theorem open_reply (fuel : Nat) (cs : List Value) (x : DataW H × List MemPlace) (h : DataW.trod enc Try.prog W 0 (fun _ => true) true fuel 49 cs = some x) (hl : cs.length = 5) : ∃ r : Rp, cs = [.int .i64 r.sg, .int .i64 r.sp, .bool r.un, .int .i64 r.tr, .bool r.good] := by
  obtain ⟨ys, n', _, _, _, hyl, hfld⟩ := DataW.trod_struct Try.underlying49 h
  simp only [List.size_toArray, List.length_cons, List.length_nil, Nat.reduceAdd] at hyl
  have e0 : DataW.trod enc Try.prog W 0 (fun _ => true) true n' 3 ((cs.drop 0).take (Try.prog.cellsOf 3)) = ys[0]? := hfld 0 _ rfl
  have e1 : DataW.trod enc Try.prog W 0 (fun _ => true) true n' 3 ((cs.drop 1).take (Try.prog.cellsOf 3)) = ys[1]? := hfld 1 _ rfl
  have e2 : DataW.trod enc Try.prog W 0 (fun _ => true) true n' 4 ((cs.drop 2).take (Try.prog.cellsOf 4)) = ys[2]? := hfld 2 _ rfl
  have e3 : DataW.trod enc Try.prog W 0 (fun _ => true) true n' 3 ((cs.drop 3).take (Try.prog.cellsOf 3)) = ys[3]? := hfld 3 _ rfl
  have e4 : DataW.trod enc Try.prog W 0 (fun _ => true) true n' 4 ((cs.drop 4).take (Try.prog.cellsOf 4)) = ys[4]? := hfld 4 _ rfl
  match cs, hl, ys, hyl with
  | [c0, c1, c2, c3, c4], _, [y0, y1, y2, y3, y4], _ =>
    simp only [cellsI, cellsBo, List.drop_zero, List.drop_succ_cons, List.take_succ_cons, List.take_zero, List.getElem?_cons_zero, List.getElem?_cons_succ] at e0 e1 e2 e3 e4
    obtain ⟨x0, q0, _, _⟩ := DataW.trod_int Try.underlying3 e0
    obtain ⟨x1, q1, _, _⟩ := DataW.trod_int Try.underlying3 e1
    obtain ⟨x2, q2, _⟩ := DataW.trod_bool Try.underlying4 e2
    obtain ⟨x3, q3, _, _⟩ := DataW.trod_int Try.underlying3 e3
    obtain ⟨x4, q4, _⟩ := DataW.trod_bool Try.underlying4 e4
    simp only [List.cons.injEq, and_true] at q0 q1 q2 q3 q4
    subst q0 q1 q2 q3 q4
    exact ⟨⟨x0, x1, x2, x3, x4⟩, rfl⟩
set_option maxRecDepth 100000 in
theorem open_def (fuel : Nat) (cs : List Value) (x : DataW H × List MemPlace) (h : DataW.trod enc Try.prog W 0 (fun _ => true) true fuel 24 cs = some x) (hl : cs.length = 3) :
    ∃ (nm : ByteArray) (dl : Int) (A : Option Addr) (c : Nat) (ss : List Stp), cs = [.string nm, .int .i64 dl, .slice A ss.length c] ∧ nm.size ≤ 9223372036854775807 ∧ ss.length ≤ 9223372036854775807 ∧ ss.length ≤ c ∧ (∀ s ∈ ss, s.Fits) ∧ Df.Steps W W.heap.size A ss := by
  match cs, hl with
  | [c0, c1, c2], _ =>
  obtain ⟨d, pl⟩ := x
  obtain ⟨y0, y1, y2, m, hx, _, hy0, hy1, hy2⟩ := Deep.trod_struct3 Try.underlying24 h
  obtain ⟨x0, e0, _, w0⟩ := DataW.trod_string Try.underlying9 hy0
  obtain ⟨x1, e1, _, w1⟩ := DataW.trod_int Try.underlying3 hy1
  obtain ⟨a0, len, cap, ss, e2, hn, hc, hm, hg, hE, hnil⟩ := els_of (⟨⟨#[]⟩, ⟨#[]⟩, 0, ⟨0, 0, 0, 0⟩, ⟨0, 0, 0, 0⟩, 0⟩ : Stp) Stp.cells Stp.Fits 12 (by omega) Try.underlying22 (by kernel_rfl) open_step hy2
  simp [cellsI, cellsStr, cellsSl] at e0 e1 e2
  subst e0 e1 e2 hn
  exact ⟨x0, x1, a0, cap, ss, rfl, by unfold maxLen at w0; exact by omega, hm, hc, hg, hE⟩
set_option maxRecDepth 100000 in
/-- an argument: an event by value -/
theorem arg_ev {r : Reach} {base : Nat} {v : Value} {d : DataW H} {pl : List MemPlace} (hv : Value.okWide Try.prog W r base 51 v)
    (h : DataW.Trod enc Try.prog W 0 (fun _ => true) true 51 v d pl) :
    ∃ (x : Ev) (A : Option Addr) (c : Nat), v = .agg #[.int .i64 x.k, .int .i64 x.now, .int .i64 x.sg, .string x.nm, .int .i64 x.r.sg, .int .i64 x.r.sp, .bool x.r.un, .int .i64 x.r.tr, .bool x.r.good, .string x.dn, .int .i64 x.dl, .slice A x.ss.length c] ∧
      (x.nm.size ≤ 9223372036854775807 ∧ x.dn.size ≤ 9223372036854775807) ∧ x.ss.length ≤ 9223372036854775807 ∧ x.ss.length ≤ c ∧ (∀ s ∈ x.ss, s.Fits) ∧ Df.Steps W W.heap.size A x.ss := by
  obtain ⟨cs, rfl, hsz⟩ := okWide_struct Try.underlying51 hv
  rw [cellsEv] at hsz
  obtain ⟨cs⟩ := cs
  obtain ⟨fuel, hf⟩ := h
  replace hf : DataW.trod enc Try.prog W 0 (fun _ => true) true fuel 51 cs = some (d, pl) := hf
  obtain ⟨ys, n', _, hx, _, hyl, hfld⟩ := DataW.trod_struct Try.underlying51 hf
  simp only [List.size_toArray, List.length_cons, List.length_nil, Nat.reduceAdd] at hyl
  have e0 : DataW.trod enc Try.prog W 0 (fun _ => true) true n' 3 ((cs.drop 0).take (Try.prog.cellsOf 3)) = ys[0]? := hfld 0 _ rfl
  have e1 : DataW.trod enc Try.prog W 0 (fun _ => true) true n' 3 ((cs.drop 1).take (Try.prog.cellsOf 3)) = ys[1]? := hfld 1 _ rfl
  have e2 : DataW.trod enc Try.prog W 0 (fun _ => true) true n' 3 ((cs.drop 2).take (Try.prog.cellsOf 3)) = ys[2]? := hfld 2 _ rfl
  have e3 : DataW.trod enc Try.prog W 0 (fun _ => true) true n' 9 ((cs.drop 3).take (Try.prog.cellsOf 9)) = ys[3]? := hfld 3 _ rfl
  have e4 : DataW.trod enc Try.prog W 0 (fun _ => true) true n' 49 ((cs.drop 4).take (Try.prog.cellsOf 49)) = ys[4]? := hfld 4 _ rfl
  have e5 : DataW.trod enc Try.prog W 0 (fun _ => true) true n' 24 ((cs.drop 9).take (Try.prog.cellsOf 24)) = ys[5]? := hfld 5 _ rfl
  match cs, hsz, ys, hyl with
  | [c0, c1, c2, c3, c4, c5, c6, c7, c8, c9, c10, c11], _, [y0, y1, y2, y3, y4, y5], _ =>
    simp only [cellsI, cellsStr, cellsRp, cellsD, List.drop_zero, List.drop_succ_cons, List.take_succ_cons, List.take_zero, List.getElem?_cons_zero, List.getElem?_cons_succ] at e0 e1 e2 e3 e4 e5
    obtain ⟨x0, q0, _, _⟩ := DataW.trod_int Try.underlying3 e0
    obtain ⟨x1, q1, _, _⟩ := DataW.trod_int Try.underlying3 e1
    obtain ⟨x2, q2, _, _⟩ := DataW.trod_int Try.underlying3 e2
    obtain ⟨x3, q3, _, w3⟩ := DataW.trod_string Try.underlying9 e3
    obtain ⟨x4, q4⟩ := open_reply _ _ _ e4 rfl
    obtain ⟨nm, dl, A, c, ss, q5, hz, hn, hc, hg, hE⟩ := open_def _ _ _ e5 rfl
    simp only [List.cons.injEq, and_true] at q0 q1 q2 q3 q4 q5
    obtain ⟨rfl, rfl, rfl, rfl, rfl⟩ := q4
    obtain ⟨rfl, rfl, rfl⟩ := q5
    subst q0 q1 q2 q3
    exact ⟨⟨x0, x1, x2, x3, x4, nm, dl, ss⟩, A, c, rfl, ⟨by unfold maxLen at w3; exact by omega, hz⟩, hn, hc, hg, hE⟩
end
end Go.Proofs.Ytihkadbcjeohjaa.Co

namespace Go.Proofs.Ytihkadbcjeohjaa.Df
open Go.RowKit
open Go.Proofs.Ytihkadbcjeohjaa.El
open Go.Proofs.Ytihkadbcjeohjaa.Bo (P Made ret_int ret_bool)

def okS (s : Stp) : Bool := decide (s.nm.size ≤ 100) && decide (s.pt.size ≤ 100)
def smallI (nm : ByteArray) (ss : List Stp) : Int := if 40 < ss.length ∨ 100 < nm.size then 1 else if ss.all okS = true then 0 else 2
theorem small_yes {nm : ByteArray} {ss : List Stp} (h : smallI nm ss = 0) : ss.length ≤ 40 ∧ nm.size ≤ 100 ∧ ∀ s ∈ ss, s.nm.size ≤ 100 ∧ s.pt.size ≤ 100 := by
  unfold smallI at h
  split at h
  · cases h
  · split at h
    · next h1 h2 =>
      refine ⟨by omega, by omega, fun s hs => ?_⟩
      have := List.all_eq_true.1 h2 s hs
      unfold okS at this
      simpa using this
    · cases h
theorem small_bad {nm : ByteArray} {ss : List Stp} (h : ¬ (40 < ss.length ∨ 100 < nm.size)) {k : Nat} {s : Stp} (hs : ss[k]? = some s) (hb : okS s = false) : smallI nm ss = 2 := by
  unfold smallI
  rw [if_neg h, if_neg]
  intro h2
  have := List.all_eq_true.1 h2 s (List.mem_of_getElem? hs)
  rw [hb] at this
  cases this
theorem small_end {nm : ByteArray} {ss : List Stp} (h : ¬ (40 < ss.length ∨ 100 < nm.size)) (hk : ∀ i s, i < ss.length → ss[i]? = some s → okS s = true) : smallI nm ss = 0 := by
  unfold smallI
  rw [if_neg h, if_pos]
  refine List.all_eq_true.2 fun s hs => ?_
  obtain ⟨i, hi⟩ := List.mem_iff_getElem?.1 hs
  exact hk i s (at_lt hi) hi
set_option maxHeartbeats 2000000 in
set_option maxRecDepth 100000 in
theorem small_any (nm : ByteArray) (dl : Int) (A : Option Addr) (c : Nat) (ss : List Stp) (n : Nat) (w : World) (hn : n = ss.length) (hb : n ≤ 9223372036854775807) (hnm : nm.size ≤ 9223372036854775807) (hfit : ∀ s ∈ ss, s.Fits) (hS : Steps w w.heap.size A ss) :
    Calls Try.prog 8 #[.agg #[.string nm, .int .i64 dl, .slice A n c]] w fun e w' => e = .returned (.int .i64 (smallI nm ss)) ∧ Made w w' := by
  by_cases h1 : 40 < n
  · have HR : Hid (smallI nm ss = 1) := Lib.hid (by unfold smallI; rw [if_pos (.inl (by omega))])
    clear hS hn hfit
    go_enter Try.func8, Try.ntmps8
    go_wp2
    go_ret
    exact ⟨ret_int HR.out.symm, Made.alloc _ _⟩
  by_cases h2 : 100 < nm.size
  · have HR : Hid (smallI nm ss = 1) := Lib.hid (by unfold smallI; rw [if_pos (.inr h2)])
    clear hS hn hfit
    go_enter Try.func8, Try.ntmps8
    go_wp2
    go_ret
    exact ⟨ret_int HR.out.symm, Made.alloc _ _⟩
  have HNo : Hid (¬ (40 < ss.length ∨ 100 < nm.size)) := Lib.hid (by omega)
  have HS := Lib.hid hS
  have HN := Lib.hid hn
  have HF := Lib.hid hfit
  clear hS hn hfit
  go_enter Try.func8, Try.ntmps8
  go_wp2
  have HM := Lib.hid (Made.alloc w (.cells #[.string nm, .int .i64 dl, .slice A n c] 24))
  have HB := Lib.hid (Box.new w 24 #[.string nm, .int .i64 dl, .slice A n c])
  generalize w.alloc (.cells #[.string nm, .int .i64 dl, .slice A n c] 24) = W0 at *
  have e2 : W0.cell? ⟨w.heap.size, 2, none⟩ = some (.slice A n c) := HB.out.cell 2
  go_loopw [3] (fun vi wr => ∃ k : Nat, vi = .int .i64 (k : Int) ∧ k ≤ n ∧ wr = W0 ∧ Hid (∀ i s, i < k → ss[i]? = some s → okS s = true)) (fun vi _ => n - (intOf vi).toNat)
  case atStart => exact ⟨0, rfl, Nat.zero_le _, rfl, Lib.hid fun i s hi => absurd hi (by omega)⟩
  case round =>
    obtain ⟨k, rfl, hk, rfl, HI⟩ := hrel
    by_cases hkn : k < n
    · obtain ⟨x, hx⟩ : ∃ x, ss[k]? = some x := ⟨_, List.getElem?_eq_getElem (by have := HN.out; omega)⟩
      obtain ⟨b, o, rfl, hbl⟩ := HS.out.at_ hx
      have HS0 := Lib.hid (HS.out.below HM.out.below)
      have c0 : wr.cell? ⟨b, o + k * 12, none⟩ = some (.string x.nm) := HS0.out.get hx 0 rfl
      have c1 : wr.cell? ⟨b, o + k * 12 + 1, none⟩ = some (.string x.pt) := HS0.out.get hx 1 rfl
      obtain ⟨hf1, hf2⟩ := HF.out x (List.mem_of_getElem? hx)
      have HX := Lib.hid hx
      clear hx
      by_cases hq1 : 100 < x.nm.size
      · have HR : Hid (smallI nm ss = 2) := Lib.hid (small_bad HNo.out HX.out (by unfold okS; rw [decide_eq_false (by omega)]; rfl))
        go_wp2
        go_ret
        exact ⟨ret_int HR.out.symm, HM.out⟩
      · by_cases hq2 : 100 < x.pt.size
        · have HR : Hid (smallI nm ss = 2) := Lib.hid (small_bad HNo.out HX.out (by unfold okS; rw [decide_eq_false (p := x.pt.size ≤ 100) (by omega)]; simp))
          go_wp2
          go_ret
          exact ⟨ret_int HR.out.symm, HM.out⟩
        · have HNx : Hid (∀ i s, i < k + 1 → ss[i]? = some s → okS s = true) := Lib.hid fun i s hi hs => by
            by_cases e : i = k
            · subst e
              rw [HX.out] at hs
              injection hs with hs
              subst hs
              unfold okS
              rw [decide_eq_true (by omega), decide_eq_true (by omega)]
              rfl
            · exact HI.out i s (by omega) hs
          go_wp2
          go_roundw
          case rel => exact ⟨k + 1, by go_num, by omega, trivial, HNx⟩
          case measure => simp [intOf]; omega
    · have HR : Hid (smallI nm ss = 0) := Lib.hid (small_end HNo.out fun i s hi hs => HI.out i s (by have := HN.out; omega) hs)
      go_wp2
      go_ret
      exact ⟨ret_int HR.out.symm, HM.out⟩
end Go.Proofs.Ytihkadbcjeohjaa.Df

namespace Go.Proofs.Ytihkadbcjeohjaa.codeEvents
open Go.Proofs.Ytihkadbcjeohjaa.Co
open Go.ChangeShapes Go.WideShapes Go.ChangeAt Go.RowKit
open Go.Proofs.Ytihkadbcjeohjaa.El
open Go.Proofs.Ytihkadbcjeohjaa.Df
open Go.Proofs.Ytihkadbcjeohjaa.Bo (P Made ret_int ret_bool)
open Go.Proofs.Ytihkadbcjeohjaa.Sa (Sg Rp)

/-- the greatest of some numbers -/
def mx (a b : Int) : Int := if b > a then b else a
theorem mx_le {a b m : Int} (h : mx a b ≤ m) : a ≤ m ∧ b ≤ m := by
  unfold mx at h
  split at h <;> omega
theorem run_mx (P : Program) (w : World) (a b : Int) : (Builtin.max2 (.int .i64 a) (.int .i64 b)).run P w = .ok (.int .i64 (mx a b)) w := by
  unfold mx
  by_cases h : b > a <;> simp [Builtin.max2, h, go_sem]
theorem run_max4 (P : Program) (w : World) (ts : Array TypeId) (t : TypeId) (a b c d : Int) : (Builtin.max_ ts t #[.int .i64 a, .int .i64 b, .int .i64 c, .int .i64 d]).run P w = .ok (.int .i64 (mx (mx (mx a b) c) d)) w := by
  show (List.foldlM Builtin.max2 (.int .i64 a) [.int .i64 b, .int .i64 c, .int .i64 d]).run P w = _
  simp only [List.foldlM_cons, List.foldlM_nil, Sem.run_bind, run_mx, Result.andThen_ok, Sem.run_pure]
theorem wpList_max4 {P : Program} {ops : Array Oper} {rest : List Oper} {o : Oper} {a : Act} {w : World} {Q : Exit → Act → World → Prop} (hgd : o.guard = none) (x0 x1 x2 x3 : Operand) (ts : Array TypeId)
    (ho : o.op = .call { callee := .builtin .max, args := #[x0, x1, x2, x3], argTypes := ts }) (n0 n1 n2 n3 M : Int) (h0 : a.eval x0 = .int .i64 n0) (h1 : a.eval x1 = .int .i64 n1) (h2 : a.eval x2 = .int .i64 n2) (h3 : a.eval x3 = .int .i64 n3)
    (hM : M = mx (mx (mx n0 n1) n2) n3) (h : wpList P ops Q rest (a.put o.dst (.int .i64 M)) w) : wpList P ops Q (o :: rest) a w :=
  wpList_plain hgd fun _ hK => by
    unfold Oper.wp execOp
    simp only [ho, resolve, invoke, builtin, Sem.run_bind, Sem.run_pure, Result.andThen_ok, List.map_toArray, List.map_cons, List.map_nil, h0, h1, h2, h3, run_max4]
    rw [← hM]
    exact hK _ _ h
theorem wpAnyH_mono {P : Program} {md : Region.Mode} {ops : Array Oper} {Q : Exit → Act → World → Prop} {S S' : World → Prop} (hS : ∀ w, S' w → S w) :
    ∀ (fuel : Nat) (listed : Array Bool) (a : Act) (w : World), wpAnyH P md ops Q S' fuel listed a w → wpAnyH P md ops Q S fuel listed a w
  | 0, _, _, _, h => h
  | fuel + 1, _, _, _, h => ⟨h.1, fun i hi => wpOp_mono (fun a' w' h' => ⟨hS _ h'.1, wpAnyH_mono hS fuel _ a' w' h'.2⟩) (h.2 i hi)⟩
theorem mod_A (l : List UInt8) : Mod (evA l).1.dn (evA l).1.ss ∧ (evA l).1.nm.size ≤ 1000000 := by
  have h0 : Mod ev0.dn ev0.ss ∧ ev0.nm.size ≤ 1000000 := ⟨⟨by show (0 : Nat) ≤ 1000000; omega, by show (0 : Nat) ≤ 1000; omega, fun _ h => by cases h⟩, by show (0 : Nat) ≤ 1000000; omega⟩
  unfold evA
  split
  · exact h0
  · split
    · exact h0
    · split
      · exact h0
      · have hf := fits_taken l
        have hl : (evV l).ss.length ≤ 32 := by
          unfold evV
          dsimp only
          split
          · unfold defSs; rw [stepsQ_len]; exact cntQ_le _
          · exact Nat.zero_le _
        exact ⟨⟨by have := hf.2.1; show (evV l).dn.size ≤ 1000000; omega, by show (evV l).ss.length ≤ 1000; omega, fun x hx => by have := hf.2.2 x hx; omega⟩, by have := hf.1; show (evV l).nm.size ≤ 1000000; omega⟩
theorem evA_zero {l : List UInt8} (h : (evA l).2.2 = 0) : goodE (evA l).1 = true ∧ l = eventF (evA l).1 := by
  obtain ⟨_, h2, h3, h4⟩ := evA_ok h
  rw [h4]
  exact ⟨h3, ev_whole h2⟩
theorem take_is (l : List UInt8) (hl : l.length ≤ 1099511627776) (A : Option Addr) (c : Nat) (W : World) (hb : Byt W W.heap.size A l) :
    Calls Try.prog 19 #[.slice A l.length c] W fun e w' => ∃ A n c, e = .returned (.tuple #[.agg #[.int .i64 (evA l).1.k, .int .i64 (evA l).1.now, .int .i64 (evA l).1.sg, .string (evA l).1.nm, .int .i64 (evA l).1.r.sg, .int .i64 (evA l).1.r.sp, .bool (evA l).1.r.un, .int .i64 (evA l).1.r.tr, .bool (evA l).1.r.good, .string (evA l).1.dn, .int .i64 (evA l).1.dl, .slice A n c], .int .i64 ((evA l).2.1 : Nat), .int .i64 ((evA l).2.2 : Nat)]) ∧ n = (evA l).1.ss.length ∧ n ≤ c ∧ Df.Steps w' w'.heap.size A (evA l).1.ss ∧ Below W.heap.size W w' := takeEvent_any A l c W hb hl
theorem read_is (l : List UInt8) (hl : l.length ≤ 1099511627776) (W : World) :
    Calls Try.prog 20 #[.string (sb l)] W fun e w' => ∃ A n c, e = .returned (.tuple #[.agg #[.int .i64 (evA l).1.k, .int .i64 (evA l).1.now, .int .i64 (evA l).1.sg, .string (evA l).1.nm, .int .i64 (evA l).1.r.sg, .int .i64 (evA l).1.r.sp, .bool (evA l).1.r.un, .int .i64 (evA l).1.r.tr, .bool (evA l).1.r.good, .string (evA l).1.dn, .int .i64 (evA l).1.dl, .slice A n c], .int .i64 ((evA l).2.1 : Nat), .int .i64 ((evA l).2.2 : Nat)]) ∧ n = (evA l).1.ss.length ∧ n ≤ c ∧ Df.Steps w' w'.heap.size A (evA l).1.ss ∧ Below W.heap.size W w' := readEvent_s (sb l) W (by rw [sb_size]; exact hl)
set_option maxHeartbeats 16000000 in
set_option maxRecDepth 100000 in
theorem walk (v : Ev) (A : Option Addr) (n c : Nat) (A1 : Option Addr) (l : List UInt8) (cB : Nat) (w : World) (hn : n = v.ss.length) (hz : v.nm.size ≤ 9223372036854775807 ∧ v.dn.size ≤ 9223372036854775807) (hb : n ≤ 9223372036854775807) (hc : n ≤ c) (hf : ∀ s ∈ v.ss, s.Fits) (hS : Df.Steps w w.heap.size A v.ss) (hm : l.length ≤ 9223372036854775807) (hy : Byt w w.heap.size A1 l) :
    Calls Try.prog 5 #[.agg #[.int .i64 v.k, .int .i64 v.now, .int .i64 v.sg, .string v.nm, .int .i64 v.r.sg, .int .i64 v.r.sp, .bool v.r.un, .int .i64 v.r.tr, .bool v.r.good, .string v.dn, .int .i64 v.dl, .slice A n c], .slice A1 l.length cB] w fun e w' => e = .returned (.bool true) ∧ Below w.heap.size w w' := by
  have HW := Lib.hid ((Below.refl w.heap.size w).alloc (Nat.le_refl _) (.cells #[.int .i64 v.k, .int .i64 v.now, .int .i64 v.sg, .string v.nm, .int .i64 v.r.sg, .int .i64 v.r.sp, .bool v.r.un, .int .i64 v.r.tr, .bool v.r.good, .string v.dn, .int .i64 v.dl, .slice A n c] 51))
  have HX := Lib.hid (Box.new w 51 #[.int .i64 v.k, .int .i64 v.now, .int .i64 v.sg, .string v.nm, .int .i64 v.r.sg, .int .i64 v.r.sp, .bool v.r.un, .int .i64 v.r.tr, .bool v.r.good, .string v.dn, .int .i64 v.dl, .slice A n c])
  have HSm : Hid (∀ W, Below w.heap.size w W → Calls Try.prog 8 #[.agg #[.string v.dn, .int .i64 v.dl, .slice A n c]] W fun e w'' => e = .returned (.int .i64 (smallI v.dn v.ss)) ∧ Made W w'') := Lib.hid fun W h => small_any v.dn v.dl A c v.ss n W hn hb hz.2 hf (hS.on h)
  have HS := Lib.hid hS
  have HN := Lib.hid hn
  have HC := Lib.hid hc
  have HY0 := Lib.hid hy
  have hzn := hz.1
  clear hS hn hf hc hz hb hy
  by_cases q0 : smallI v.dn v.ss = 0
  rotate_left
  · have g0 : (smallI v.dn v.ss != 0) = true := by simpa using q0
    clear q0
    go_enter Try.func5, Try.ntmps5
    go_wp2_with fail
    generalize w.alloc (.cells #[.int .i64 v.k, .int .i64 v.now, .int .i64 v.sg, .string v.nm, .int .i64 v.r.sg, .int .i64 v.r.sp, .bool v.r.un, .int .i64 v.r.tr, .bool v.r.good, .string v.dn, .int .i64 v.dl, .slice A n c] 51) = W0 at *
    refine (awake_any _).mono ?_
    rintro e w1 ⟨rfl, b1⟩
    have HX1 := Lib.hid (HX.out.below b1 HX.out.lt)
    have HW1 := Lib.hid (HW.out.trans (b1.mono HW.out.size))
    clear b1
    obtain ⟨ce0, ce1, ce2, ce3, ce4, ce5, ce6, ce7, ce8, ce9, ce10, ce11⟩ := evc (v := v) HX1.out
    go_wp2_with fail
    refine (HSm.out _ HW1.out).mono ?_
    rintro e w2 ⟨rfl, hm⟩
    have HX2 := Lib.hid (Bo.Box.made HX1.out hm)
    have HW2 := Lib.hid (HW1.out.trans (hm.below.mono HW1.out.size))
    clear hm ce0 ce1 ce2 ce3 ce4 ce5 ce6 ce7 ce8 ce9 ce10 ce11 HX1 HW1
    obtain ⟨ce0, ce1, ce2, ce3, ce4, ce5, ce6, ce7, ce8, ce9, ce10, ce11⟩ := evc (v := v) HX2.out
    go_wp2
    go_ret
    exact ⟨rfl, HW2.out⟩
  obtain ⟨s40, snm, sst⟩ := small_yes q0
  rw [q0] at HSm
  have HM : Hid (Mod v.dn v.ss) := Lib.hid ⟨by omega, by omega, fun s hs => by have := sst s hs; omega⟩
  have HFi : Hid (v.dn.size ≤ 256 ∧ ∀ x ∈ v.ss, x.nm.size ≤ 256 ∧ x.pt.size ≤ 256) := Lib.hid ⟨by omega, fun s hs => by have := sst s hs; omega⟩
  clear q0 sst s40 snm
  by_cases q1 : 200 < v.nm.size
  · have g1 : decide (200 < (v.nm.size : Int)) = true := decide_eq_true (by omega)
    go_enter Try.func5, Try.ntmps5
    go_wp2_with fail
    generalize w.alloc (.cells #[.int .i64 v.k, .int .i64 v.now, .int .i64 v.sg, .string v.nm, .int .i64 v.r.sg, .int .i64 v.r.sp, .bool v.r.un, .int .i64 v.r.tr, .bool v.r.good, .string v.dn, .int .i64 v.dl, .slice A n c] 51) = W0 at *
    refine (awake_any _).mono ?_
    rintro e w1 ⟨rfl, b1⟩
    have HX1 := Lib.hid (HX.out.below b1 HX.out.lt)
    have HW1 := Lib.hid (HW.out.trans (b1.mono HW.out.size))
    clear b1
    obtain ⟨ce0, ce1, ce2, ce3, ce4, ce5, ce6, ce7, ce8, ce9, ce10, ce11⟩ := evc (v := v) HX1.out
    go_wp2_with fail
    refine (HSm.out _ HW1.out).mono ?_
    rintro e w2 ⟨rfl, hm⟩
    have HX2 := Lib.hid (Bo.Box.made HX1.out hm)
    have HW2 := Lib.hid (HW1.out.trans (hm.below.mono HW1.out.size))
    clear hm ce0 ce1 ce2 ce3 ce4 ce5 ce6 ce7 ce8 ce9 ce10 ce11 HX1 HW1
    obtain ⟨ce0, ce1, ce2, ce3, ce4, ce5, ce6, ce7, ce8, ce9, ce10, ce11⟩ := evc (v := v) HX2.out
    go_wp2
    go_ret
    exact ⟨rfl, HW2.out⟩
  have g1 : decide (200 < (v.nm.size : Int)) = false := decide_eq_false (by omega)
  by_cases q2 : 700 < l.length
  · have g2 : decide (700 < (l.length : Int)) = true := decide_eq_true (by omega)
    go_enter Try.func5, Try.ntmps5
    go_wp2_with fail
    generalize w.alloc (.cells #[.int .i64 v.k, .int .i64 v.now, .int .i64 v.sg, .string v.nm, .int .i64 v.r.sg, .int .i64 v.r.sp, .bool v.r.un, .int .i64 v.r.tr, .bool v.r.good, .string v.dn, .int .i64 v.dl, .slice A n c] 51) = W0 at *
    refine (awake_any _).mono ?_
    rintro e w1 ⟨rfl, b1⟩
    have HX1 := Lib.hid (HX.out.below b1 HX.out.lt)
    have HW1 := Lib.hid (HW.out.trans (b1.mono HW.out.size))
    clear b1
    obtain ⟨ce0, ce1, ce2, ce3, ce4, ce5, ce6, ce7, ce8, ce9, ce10, ce11⟩ := evc (v := v) HX1.out
    go_wp2_with fail
    refine (HSm.out _ HW1.out).mono ?_
    rintro e w2 ⟨rfl, hm⟩
    have HX2 := Lib.hid (Bo.Box.made HX1.out hm)
    have HW2 := Lib.hid (HW1.out.trans (hm.below.mono HW1.out.size))
    clear hm ce0 ce1 ce2 ce3 ce4 ce5 ce6 ce7 ce8 ce9 ce10 ce11 HX1 HW1
    obtain ⟨ce0, ce1, ce2, ce3, ce4, ce5, ce6, ce7, ce8, ce9, ce10, ce11⟩ := evc (v := v) HX2.out
    go_wp2
    go_ret
    exact ⟨rfl, HW2.out⟩
  have g2 : decide (700 < (l.length : Int)) = false := decide_eq_false (by omega)
  have HIn : Hid (∀ W, Below w.heap.size w W → EvIn W v A n c) := Lib.hid fun W h => ⟨HN.out, HC.out, HM.out, by omega, HS.out.on h⟩
  have HFt : Hid v.Fits := Lib.hid ⟨by omega, HFi.out.1, HFi.out.2⟩
  have HG1 : Hid (∀ W, Below w.heap.size w W → Calls Try.prog 22 #[.agg #[.int .i64 v.k, .int .i64 v.now, .int .i64 v.sg, .string v.nm, .int .i64 v.r.sg, .int .i64 v.r.sp, .bool v.r.un, .int .i64 v.r.tr, .bool v.r.good, .string v.dn, .int .i64 v.dl, .slice A n c]] W fun e w' => e = .returned (.bool (goodE v)) ∧ Below W.heap.size W w') := Lib.hid fun W h => good_ev v A n c W (HIn.out W h)
  have HG2 : Hid (∀ W, Below w.heap.size w W → Calls Try.prog 23 #[.agg #[.int .i64 v.k, .int .i64 v.now, .int .i64 v.sg, .string v.nm, .int .i64 v.r.sg, .int .i64 v.r.sp, .bool v.r.un, .int .i64 v.r.tr, .bool v.r.good, .string v.dn, .int .i64 v.dl, .slice A n c]] W fun e w' => e = .returned (.bool (goodE v)) ∧ Below W.heap.size W w') := Lib.hid fun W h => rgoodE_any v A n c W (HIn.out W h)
  have HTk := Lib.hid (take_is l (by omega))
  have HRd := Lib.hid (read_is l (by omega))
  have HXm := Lib.hid (mod_A l)
  have HZ := Lib.hid (evA_zero (l := l))
  obtain ⟨X, hX⟩ : ∃ X, X = (evA l).1 := ⟨_, rfl⟩
  obtain ⟨at_, hat⟩ : ∃ a, a = (evA l).2.1 := ⟨_, rfl⟩
  obtain ⟨er, her⟩ : ∃ a, a = (evA l).2.2 := ⟨_, rfl⟩
  obtain ⟨t2, ht2⟩ : ∃ t, t = sb l := ⟨_, rfl⟩
  rw [← hX, ← hat, ← her] at HTk HRd
  rw [← hX, ← her] at HZ
  rw [← hX] at HXm
  rw [← ht2] at HRd
  have HT2' := Lib.hid ht2
  have HT2 : Hid (er = 0 → goodE X = true ∧ t2 = ⟨(eventF X).toArray⟩) := Lib.hid fun h => ⟨(HZ.out h).1, by rw [ht2]; unfold sb; rw [← (HZ.out h).2]⟩
  obtain ⟨gb, hgb⟩ : ∃ g, g = goodE v := ⟨_, rfl⟩
  rw [← hgb] at HG1 HG2
  have HGb := Lib.hid hgb
  have HLr := Lib.hid (restF_len v HM.out (by omega))
  have HLe := Lib.hid (eventF_len v)
  clear hX hat her ht2 hgb HZ q1 q2
  go_enter Try.func5, Try.ntmps5
  go_wp2_with fail
  generalize w.alloc (.cells #[.int .i64 v.k, .int .i64 v.now, .int .i64 v.sg, .string v.nm, .int .i64 v.r.sg, .int .i64 v.r.sp, .bool v.r.un, .int .i64 v.r.tr, .bool v.r.good, .string v.dn, .int .i64 v.dl, .slice A n c] 51) = W0 at *
  refine (awake_any _).mono ?_
  rintro e w1 ⟨rfl, b1⟩
  have HX1 := Lib.hid (HX.out.below b1 HX.out.lt)
  have HW1 := Lib.hid (HW.out.trans (b1.mono HW.out.size))
  clear b1
  obtain ⟨ce0, ce1, ce2, ce3, ce4, ce5, ce6, ce7, ce8, ce9, ce10, ce11⟩ := evc (v := v) HX1.out
  go_wp2_with fail
  refine (HSm.out _ HW1.out).mono ?_
  rintro e w2 ⟨rfl, hm⟩
  have HX2 := Lib.hid (Bo.Box.made HX1.out hm)
  have HW2 := Lib.hid (HW1.out.trans (hm.below.mono HW1.out.size))
  clear hm ce0 ce1 ce2 ce3 ce4 ce5 ce6 ce7 ce8 ce9 ce10 ce11 HX1 HW1
  obtain ⟨ce0, ce1, ce2, ce3, ce4, ce5, ce6, ce7, ce8, ce9, ce10, ce11⟩ := evc (v := v) HX2.out
  go_wp2_with fail
  refine (HTk.out A1 cB w2 (HY0.out.below HW2.out |>.more HW2.out.size)).mono ?_
  rintro e w3 ⟨A3, n3, c3, rfl, hn3, hc3, hS3, b3⟩
  have HN3 := Lib.hid hn3
  have HC3 := Lib.hid hc3
  have HS3 := Lib.hid hS3
  have HX3 := Lib.hid (HX2.out.below b3 HX2.out.lt)
  have HW3 := Lib.hid (HW2.out.trans (b3.mono HW2.out.size))
  clear b3 hn3 hc3 hS3 HTk HX2 HW2 ce0 ce1 ce2 ce3 ce4 ce5 ce6 ce7 ce8 ce9 ce10 ce11
  have hcb : ∀ u, Below w.heap.size w u → (convert 25 9 (.slice A1 l.length cB)).run Try.prog u = .ok (.string t2) u := fun u H => by
    rw [HT2'.out]
    exact (HY0.out.below H).text 25 5 9 Try.underlying25 Try.underlying5 Try.underlying9 cB
  have HCB := Lib.hid hcb
  have hcb3 := hcb _ (HW3.out.alloc HW3.out.size (.cells #[.int .i64 X.k, .int .i64 X.now, .int .i64 X.sg, .string X.nm, .int .i64 X.r.sg, .int .i64 X.r.sp, .bool X.r.un, .int .i64 X.r.tr, .bool X.r.good, .string X.dn, .int .i64 X.dl, .slice A3 n3 c3] 51))
  clear hcb
  go_wp2_with fail
  refine (HRd.out _).mono ?_
  rintro e w4 ⟨A4, n4, c4, rfl, hn4, hc4, hS4, b4⟩
  have hbw := (Below.refl w3.heap.size w3).alloc (Nat.le_refl _) (.cells #[.int .i64 X.k, .int .i64 X.now, .int .i64 X.sg, .string X.nm, .int .i64 X.r.sg, .int .i64 X.r.sp, .bool X.r.un, .int .i64 X.r.tr, .bool X.r.good, .string X.dn, .int .i64 X.dl, .slice A3 n3 c3] 51)
  have hb3 : Below w3.heap.size w3 w4 := hbw.trans (b4.mono hbw.size)
  have HN4 := Lib.hid hn4
  have HC4 := Lib.hid hc4
  have HX6' := Lib.hid ((Box.new w3 51 #[.int .i64 X.k, .int .i64 X.now, .int .i64 X.sg, .string X.nm, .int .i64 X.r.sg, .int .i64 X.r.sp, .bool X.r.un, .int .i64 X.r.tr, .bool X.r.good, .string X.dn, .int .i64 X.dl, .slice A3 n3 c3]).below b4 (Box.new w3 51 #[.int .i64 X.k, .int .i64 X.now, .int .i64 X.sg, .string X.nm, .int .i64 X.r.sg, .int .i64 X.r.sp, .bool X.r.un, .int .i64 X.r.tr, .bool X.r.good, .string X.dn, .int .i64 X.dl, .slice A3 n3 c3]).lt)
  have HX7 := Lib.hid (HX3.out.below hb3 HX3.out.lt)
  have HW7 := Lib.hid (HW3.out.trans (hb3.mono HW3.out.size))
  have HS3' := Lib.hid (HS3.out.on hb3)
  have HS4' := Lib.hid hS4
  clear hbw hb3 b4 hn4 hc4 hS4 HX3 HW3 HS3 HRd hcb3
  go_upto_region 7 with fail
  have hbn := (Below.refl w4.heap.size w4).alloc (Nat.le_refl _) (.cells #[.int .i64 X.k, .int .i64 X.now, .int .i64 X.sg, .string X.nm, .int .i64 X.r.sg, .int .i64 X.r.sp, .bool X.r.un, .int .i64 X.r.tr, .bool X.r.good, .string X.dn, .int .i64 X.dl, .slice A4 n4 c4] 51)
  have HX6 := Lib.hid (HX6'.out.alloc (.cells #[.int .i64 X.k, .int .i64 X.now, .int .i64 X.sg, .string X.nm, .int .i64 X.r.sg, .int .i64 X.r.sp, .bool X.r.un, .int .i64 X.r.tr, .bool X.r.good, .string X.dn, .int .i64 X.dl, .slice A4 n4 c4] 51))
  have HX9 := Lib.hid (Box.new w4 51 #[.int .i64 X.k, .int .i64 X.now, .int .i64 X.sg, .string X.nm, .int .i64 X.r.sg, .int .i64 X.r.sp, .bool X.r.un, .int .i64 X.r.tr, .bool X.r.good, .string X.dn, .int .i64 X.dl, .slice A4 n4 c4])
  have HX8 := Lib.hid (HX7.out.alloc (.cells #[.int .i64 X.k, .int .i64 X.now, .int .i64 X.sg, .string X.nm, .int .i64 X.r.sg, .int .i64 X.r.sp, .bool X.r.un, .int .i64 X.r.tr, .bool X.r.good, .string X.dn, .int .i64 X.dl, .slice A4 n4 c4] 51))
  have HW8 := Lib.hid (HW7.out.alloc HW7.out.size (.cells #[.int .i64 X.k, .int .i64 X.now, .int .i64 X.sg, .string X.nm, .int .i64 X.r.sg, .int .i64 X.r.sp, .bool X.r.un, .int .i64 X.r.tr, .bool X.r.good, .string X.dn, .int .i64 X.dl, .slice A4 n4 c4] 51))
  have HS5 := Lib.hid (HS3'.out.on hbn)
  have HS6 := Lib.hid (HS4'.out.on hbn)
  clear hbn HX6' HX7 HW7 HS3' HS4'
  generalize w4.alloc (.cells #[.int .i64 X.k, .int .i64 X.now, .int .i64 X.sg, .string X.nm, .int .i64 X.r.sg, .int .i64 X.r.sp, .bool X.r.un, .int .i64 X.r.tr, .bool X.r.good, .string X.dn, .int .i64 X.dl, .slice A4 n4 c4] 51) = V at *
  have HI3 : Hid (∀ u, Below V.heap.size V u → EvIn u X A3 n3 c3) := Lib.hid fun u H => ⟨HN3.out, HC3.out, HXm.out.1, HXm.out.2, HS5.out.on H⟩
  have HSa : Hid (∀ u, Below V.heap.size V u → Calls Try.prog 21 #[.agg #[.int .i64 X.k, .int .i64 X.now, .int .i64 X.sg, .string X.nm, .int .i64 X.r.sg, .int .i64 X.r.sp, .bool X.r.un, .int .i64 X.r.tr, .bool X.r.good, .string X.dn, .int .i64 X.dl, .slice A3 n3 c3], .agg #[.int .i64 X.k, .int .i64 X.now, .int .i64 X.sg, .string X.nm, .int .i64 X.r.sg, .int .i64 X.r.sp, .bool X.r.un, .int .i64 X.r.tr, .bool X.r.good, .string X.dn, .int .i64 X.dl, .slice A4 n4 c4]] u fun e w' => e = .returned (.bool true) ∧ Below u.heap.size u w') := Lib.hid fun u H => resame_s X A3 A4 n3 c3 n4 c4 u (HI3.out u H) ⟨HN4.out, HC4.out, HXm.out.1, HXm.out.2, HS6.out.on H⟩
  go_cut [68] from 48 to 68 (fun x wx => x = .bool false ∧ Hid (Below V.heap.size V wx))
  case first => as_aux_lemma =>
    have a0 : ∀ u, Below V.heap.size V u → u.cell? ⟨w.heap.size, 0, none⟩ = some (.int .i64 v.k) := fun u H => (H.cell (p := ⟨w.heap.size, 0, none⟩) HX8.out.lt).trans (HX8.out.cell 0)
    have a1 : ∀ u, Below V.heap.size V u → u.cell? ⟨w.heap.size, 1, none⟩ = some (.int .i64 v.now) := fun u H => (H.cell (p := ⟨w.heap.size, 1, none⟩) HX8.out.lt).trans (HX8.out.cell 1)
    have a2 : ∀ u, Below V.heap.size V u → u.cell? ⟨w.heap.size, 2, none⟩ = some (.int .i64 v.sg) := fun u H => (H.cell (p := ⟨w.heap.size, 2, none⟩) HX8.out.lt).trans (HX8.out.cell 2)
    have a3 : ∀ u, Below V.heap.size V u → u.cell? ⟨w.heap.size, 3, none⟩ = some (.string v.nm) := fun u H => (H.cell (p := ⟨w.heap.size, 3, none⟩) HX8.out.lt).trans (HX8.out.cell 3)
    have a4 : ∀ u, Below V.heap.size V u → u.cell? ⟨w.heap.size, 4, none⟩ = some (.int .i64 v.r.sg) := fun u H => (H.cell (p := ⟨w.heap.size, 4, none⟩) HX8.out.lt).trans (HX8.out.cell 4)
    have a5 : ∀ u, Below V.heap.size V u → u.cell? ⟨w.heap.size, 5, none⟩ = some (.int .i64 v.r.sp) := fun u H => (H.cell (p := ⟨w.heap.size, 5, none⟩) HX8.out.lt).trans (HX8.out.cell 5)
    have a6 : ∀ u, Below V.heap.size V u → u.cell? ⟨w.heap.size, 6, none⟩ = some (.bool v.r.un) := fun u H => (H.cell (p := ⟨w.heap.size, 6, none⟩) HX8.out.lt).trans (HX8.out.cell 6)
    have a7 : ∀ u, Below V.heap.size V u → u.cell? ⟨w.heap.size, 7, none⟩ = some (.int .i64 v.r.tr) := fun u H => (H.cell (p := ⟨w.heap.size, 7, none⟩) HX8.out.lt).trans (HX8.out.cell 7)
    have a8 : ∀ u, Below V.heap.size V u → u.cell? ⟨w.heap.size, 8, none⟩ = some (.bool v.r.good) := fun u H => (H.cell (p := ⟨w.heap.size, 8, none⟩) HX8.out.lt).trans (HX8.out.cell 8)
    have a9 : ∀ u, Below V.heap.size V u → u.cell? ⟨w.heap.size, 9, none⟩ = some (.string v.dn) := fun u H => (H.cell (p := ⟨w.heap.size, 9, none⟩) HX8.out.lt).trans (HX8.out.cell 9)
    have a10 : ∀ u, Below V.heap.size V u → u.cell? ⟨w.heap.size, 10, none⟩ = some (.int .i64 v.dl) := fun u H => (H.cell (p := ⟨w.heap.size, 10, none⟩) HX8.out.lt).trans (HX8.out.cell 10)
    have a11 : ∀ u, Below V.heap.size V u → u.cell? ⟨w.heap.size, 11, none⟩ = some (.slice A n c) := fun u H => (H.cell (p := ⟨w.heap.size, 11, none⟩) HX8.out.lt).trans (HX8.out.cell 11)
    have x0 : ∀ u, Below V.heap.size V u → u.cell? ⟨w3.heap.size, 0, none⟩ = some (.int .i64 X.k) := fun u H => (H.cell (p := ⟨w3.heap.size, 0, none⟩) HX6.out.lt).trans (HX6.out.cell 0)
    have x1 : ∀ u, Below V.heap.size V u → u.cell? ⟨w3.heap.size, 1, none⟩ = some (.int .i64 X.now) := fun u H => (H.cell (p := ⟨w3.heap.size, 1, none⟩) HX6.out.lt).trans (HX6.out.cell 1)
    have x2 : ∀ u, Below V.heap.size V u → u.cell? ⟨w3.heap.size, 2, none⟩ = some (.int .i64 X.sg) := fun u H => (H.cell (p := ⟨w3.heap.size, 2, none⟩) HX6.out.lt).trans (HX6.out.cell 2)
    have x3 : ∀ u, Below V.heap.size V u → u.cell? ⟨w3.heap.size, 3, none⟩ = some (.string X.nm) := fun u H => (H.cell (p := ⟨w3.heap.size, 3, none⟩) HX6.out.lt).trans (HX6.out.cell 3)
    have x4 : ∀ u, Below V.heap.size V u → u.cell? ⟨w3.heap.size, 4, none⟩ = some (.int .i64 X.r.sg) := fun u H => (H.cell (p := ⟨w3.heap.size, 4, none⟩) HX6.out.lt).trans (HX6.out.cell 4)
    have x5 : ∀ u, Below V.heap.size V u → u.cell? ⟨w3.heap.size, 5, none⟩ = some (.int .i64 X.r.sp) := fun u H => (H.cell (p := ⟨w3.heap.size, 5, none⟩) HX6.out.lt).trans (HX6.out.cell 5)
    have x6 : ∀ u, Below V.heap.size V u → u.cell? ⟨w3.heap.size, 6, none⟩ = some (.bool X.r.un) := fun u H => (H.cell (p := ⟨w3.heap.size, 6, none⟩) HX6.out.lt).trans (HX6.out.cell 6)
    have x7 : ∀ u, Below V.heap.size V u → u.cell? ⟨w3.heap.size, 7, none⟩ = some (.int .i64 X.r.tr) := fun u H => (H.cell (p := ⟨w3.heap.size, 7, none⟩) HX6.out.lt).trans (HX6.out.cell 7)
    have x8 : ∀ u, Below V.heap.size V u → u.cell? ⟨w3.heap.size, 8, none⟩ = some (.bool X.r.good) := fun u H => (H.cell (p := ⟨w3.heap.size, 8, none⟩) HX6.out.lt).trans (HX6.out.cell 8)
    have x9 : ∀ u, Below V.heap.size V u → u.cell? ⟨w3.heap.size, 9, none⟩ = some (.string X.dn) := fun u H => (H.cell (p := ⟨w3.heap.size, 9, none⟩) HX6.out.lt).trans (HX6.out.cell 9)
    have x10 : ∀ u, Below V.heap.size V u → u.cell? ⟨w3.heap.size, 10, none⟩ = some (.int .i64 X.dl) := fun u H => (H.cell (p := ⟨w3.heap.size, 10, none⟩) HX6.out.lt).trans (HX6.out.cell 10)
    have x11 : ∀ u, Below V.heap.size V u → u.cell? ⟨w3.heap.size, 11, none⟩ = some (.slice A3 n3 c3) := fun u H => (H.cell (p := ⟨w3.heap.size, 11, none⟩) HX6.out.lt).trans (HX6.out.cell 11)
    have y0 : ∀ u, Below V.heap.size V u → u.cell? ⟨w4.heap.size, 0, none⟩ = some (.int .i64 X.k) := fun u H => (H.cell (p := ⟨w4.heap.size, 0, none⟩) HX9.out.lt).trans (HX9.out.cell 0)
    have y1 : ∀ u, Below V.heap.size V u → u.cell? ⟨w4.heap.size, 1, none⟩ = some (.int .i64 X.now) := fun u H => (H.cell (p := ⟨w4.heap.size, 1, none⟩) HX9.out.lt).trans (HX9.out.cell 1)
    have y2 : ∀ u, Below V.heap.size V u → u.cell? ⟨w4.heap.size, 2, none⟩ = some (.int .i64 X.sg) := fun u H => (H.cell (p := ⟨w4.heap.size, 2, none⟩) HX9.out.lt).trans (HX9.out.cell 2)
    have y3 : ∀ u, Below V.heap.size V u → u.cell? ⟨w4.heap.size, 3, none⟩ = some (.string X.nm) := fun u H => (H.cell (p := ⟨w4.heap.size, 3, none⟩) HX9.out.lt).trans (HX9.out.cell 3)
    have y4 : ∀ u, Below V.heap.size V u → u.cell? ⟨w4.heap.size, 4, none⟩ = some (.int .i64 X.r.sg) := fun u H => (H.cell (p := ⟨w4.heap.size, 4, none⟩) HX9.out.lt).trans (HX9.out.cell 4)
    have y5 : ∀ u, Below V.heap.size V u → u.cell? ⟨w4.heap.size, 5, none⟩ = some (.int .i64 X.r.sp) := fun u H => (H.cell (p := ⟨w4.heap.size, 5, none⟩) HX9.out.lt).trans (HX9.out.cell 5)
    have y6 : ∀ u, Below V.heap.size V u → u.cell? ⟨w4.heap.size, 6, none⟩ = some (.bool X.r.un) := fun u H => (H.cell (p := ⟨w4.heap.size, 6, none⟩) HX9.out.lt).trans (HX9.out.cell 6)
    have y7 : ∀ u, Below V.heap.size V u → u.cell? ⟨w4.heap.size, 7, none⟩ = some (.int .i64 X.r.tr) := fun u H => (H.cell (p := ⟨w4.heap.size, 7, none⟩) HX9.out.lt).trans (HX9.out.cell 7)
    have y8 : ∀ u, Below V.heap.size V u → u.cell? ⟨w4.heap.size, 8, none⟩ = some (.bool X.r.good) := fun u H => (H.cell (p := ⟨w4.heap.size, 8, none⟩) HX9.out.lt).trans (HX9.out.cell 8)
    have y9 : ∀ u, Below V.heap.size V u → u.cell? ⟨w4.heap.size, 9, none⟩ = some (.string X.dn) := fun u H => (H.cell (p := ⟨w4.heap.size, 9, none⟩) HX9.out.lt).trans (HX9.out.cell 9)
    have y10 : ∀ u, Below V.heap.size V u → u.cell? ⟨w4.heap.size, 10, none⟩ = some (.int .i64 X.dl) := fun u H => (H.cell (p := ⟨w4.heap.size, 10, none⟩) HX9.out.lt).trans (HX9.out.cell 10)
    have y11 : ∀ u, Below V.heap.size V u → u.cell? ⟨w4.heap.size, 11, none⟩ = some (.slice A4 n4 c4) := fun u H => (H.cell (p := ⟨w4.heap.size, 11, none⟩) HX9.out.lt).trans (HX9.out.cell 11)
    have hgb : (gb != gb) = false := by cases gb <;> rfl
    refine wp_region_held_drew (S := fun u => Below V.heap.size V u) (by kernel_rfl) (Below.drew (Below.refl _ _)) (fun hHeld => ?_)
    refine wpAnyH_take (i := 0) (oi := ⟨some 48, _, _, _, _, _⟩) (v := ?_) rfl (by kernel_rfl) (by kernel_rfl) (by kernel_rfl) (fun _ _ _ h => h) (Or.inl ⟨by rfl, ?_⟩) (by assumption) ?_
    rotate_left
    · (intro u hu; (try dsimp only at hu); go_simp; (try with_reducible rfl))
    (try simp only [Act.put, List.setIfInBounds_toArray, List.set_cons_zero, List.set_cons_succ])
    refine wpAnyH_take (i := 1) (oi := ⟨some 49, _, _, _, _, _⟩) (v := ?_) rfl (by kernel_rfl) (by kernel_rfl) (by kernel_rfl) (fun _ _ _ h => h) (Or.inl ⟨by rfl, ?_⟩) (by assumption) ?_
    rotate_left
    · (intro u hu; (try dsimp only at hu); go_simp; (try with_reducible rfl))
    (try simp only [Act.put, List.setIfInBounds_toArray, List.set_cons_zero, List.set_cons_succ])
    refine wpAnyH_ready (rs := [2]) (by kernel_rfl) (by simp) ?_
    refine AllReadyH.cons (o := ⟨some 50, _, _, _, _, _⟩) rfl (fun K hK => ?_) AllReadyH.nil
    go_simp
    refine (HSa.out _ (Below.drew (Below.refl _ _))).mono ?_
    rintro e v1 ⟨rfl, b1⟩
    have hb1 := (Below.drew (Below.refl V.heap.size V)).trans (b1.mono (Nat.le_refl _))
    go_wp2_with fail
    refine hK.out _ _ ?_ (fun hHeld => ?_)
    · exact hb1
    clear hK K
    (try simp only [Act.put, List.setIfInBounds_toArray, List.set_cons_zero, List.set_cons_succ])
    refine wpAnyH_take (i := 3) (oi := ⟨some 51, _, _, _, _, _⟩) (v := ?_) rfl (by kernel_rfl) (by kernel_rfl) (by kernel_rfl) (fun _ _ _ h => h) (Or.inl ⟨by rfl, ?_⟩) (by assumption) ?_
    rotate_left
    · (intro u hu; (try dsimp only at hu); go_simp; (try with_reducible rfl))
    (try simp only [Act.put, List.setIfInBounds_toArray, List.set_cons_zero, List.set_cons_succ])
    refine wpAnyH_take (i := 4) (oi := ⟨some 52, _, _, _, _, _⟩) (v := ?_) rfl (by kernel_rfl) (by kernel_rfl) (by kernel_rfl) (fun _ _ _ h => h) (Or.inl ⟨by rfl, ?_⟩) (by assumption) ?_
    rotate_left
    · (intro u hu; (try dsimp only at hu); go_simp; (try with_reducible rfl))
    (try simp only [Act.put, List.setIfInBounds_toArray, List.set_cons_zero, List.set_cons_succ])
    refine wpAnyH_take (i := 5) (oi := ⟨some 53, _, _, _, _, _⟩) (v := ?_) rfl (by kernel_rfl) (by kernel_rfl) (by kernel_rfl) (fun _ _ _ h => h) (Or.inl ⟨by rfl, ?_⟩) (by assumption) ?_
    rotate_left
    · (intro u hu; (try dsimp only at hu); go_simp; (try with_reducible rfl))
    (try simp only [Act.put, List.setIfInBounds_toArray, List.set_cons_zero, List.set_cons_succ])
    refine wpAnyH_take (i := 6) (oi := ⟨some 54, _, _, _, _, _⟩) (v := ?_) rfl (by kernel_rfl) (by kernel_rfl) (by kernel_rfl) (fun _ _ _ h => h) (Or.inl ⟨by rfl, ?_⟩) (by assumption) ?_
    rotate_left
    · (intro u hu; (try dsimp only at hu); go_simp; (try with_reducible rfl))
    (try simp only [Act.put, List.setIfInBounds_toArray, List.set_cons_zero, List.set_cons_succ])
    refine wpAnyH_take (i := 7) (oi := ⟨some 55, _, _, _, _, _⟩) (v := ?_) rfl (by kernel_rfl) (by kernel_rfl) (by kernel_rfl) (fun _ _ _ h => h) (Or.inl ⟨by rfl, ?_⟩) (by assumption) ?_
    rotate_left
    · (intro u hu; (try dsimp only at hu); go_simp; (try with_reducible rfl))
    (try simp only [Act.put, List.setIfInBounds_toArray, List.set_cons_zero, List.set_cons_succ])
    refine wpAnyH_take (i := 8) (oi := ⟨some 56, _, _, _, _, _⟩) (v := ?_) rfl (by kernel_rfl) (by kernel_rfl) (by kernel_rfl) (fun _ _ _ h => h) (Or.inl ⟨by rfl, ?_⟩) (by assumption) ?_
    rotate_left
    · (intro u hu; (try dsimp only at hu); go_simp; (try with_reducible rfl))
    (try simp only [Act.put, List.setIfInBounds_toArray, List.set_cons_zero, List.set_cons_succ])
    refine wpAnyH_take (i := 9) (oi := ⟨some 57, _, _, _, _, _⟩) (v := ?_) rfl (by kernel_rfl) (by kernel_rfl) (by kernel_rfl) (fun _ _ _ h => h) (Or.inl ⟨by rfl, ?_⟩) (by assumption) ?_
    rotate_left
    · (intro u hu; (try dsimp only at hu); go_simp; (try with_reducible rfl))
    (try simp only [Act.put, List.setIfInBounds_toArray, List.set_cons_zero, List.set_cons_succ])
    refine wpAnyH_take (i := 10) (oi := ⟨some 58, _, _, _, _, _⟩) (v := ?_) rfl (by kernel_rfl) (by kernel_rfl) (by kernel_rfl) (fun _ _ _ h => h) (Or.inl ⟨by rfl, ?_⟩) (by assumption) ?_
    rotate_left
    · (intro u hu; (try dsimp only at hu); go_simp; (try with_reducible rfl))
    (try simp only [Act.put, List.setIfInBounds_toArray, List.set_cons_zero, List.set_cons_succ])
    refine wpAnyH_take (i := 11) (oi := ⟨some 59, _, _, _, _, _⟩) (v := ?_) rfl (by kernel_rfl) (by kernel_rfl) (by kernel_rfl) (fun _ _ _ h => h) (Or.inl ⟨by rfl, ?_⟩) (by assumption) ?_
    rotate_left
    · (intro u hu; (try dsimp only at hu); go_simp; (try with_reducible rfl))
    (try simp only [Act.put, List.setIfInBounds_toArray, List.set_cons_zero, List.set_cons_succ])
    refine wpAnyH_take (i := 12) (oi := ⟨some 60, _, _, _, _, _⟩) (v := ?_) rfl (by kernel_rfl) (by kernel_rfl) (by kernel_rfl) (fun _ _ _ h => h) (Or.inl ⟨by rfl, ?_⟩) (by assumption) ?_
    rotate_left
    · (intro u hu; (try dsimp only at hu); go_simp; (try with_reducible rfl))
    (try simp only [Act.put, List.setIfInBounds_toArray, List.set_cons_zero, List.set_cons_succ])
    refine wpAnyH_take (i := 13) (oi := ⟨some 61, _, _, _, _, _⟩) (v := ?_) rfl (by kernel_rfl) (by kernel_rfl) (by kernel_rfl) (fun _ _ _ h => h) (Or.inl ⟨by rfl, ?_⟩) (by assumption) ?_
    rotate_left
    · (intro u hu; (try dsimp only at hu); go_simp; (try with_reducible rfl))
    (try simp only [Act.put, List.setIfInBounds_toArray, List.set_cons_zero, List.set_cons_succ])
    refine wpAnyH_take (i := 14) (oi := ⟨some 62, _, _, _, _, _⟩) (v := ?_) rfl (by kernel_rfl) (by kernel_rfl) (by kernel_rfl) (fun _ _ _ h => h) (Or.inl ⟨by rfl, ?_⟩) (by assumption) ?_
    rotate_left
    · (intro u hu; (try dsimp only at hu); go_simp; (try with_reducible rfl))
    (try simp only [Act.put, List.setIfInBounds_toArray, List.set_cons_zero, List.set_cons_succ])
    refine wpAnyH_take (i := 15) (oi := ⟨some 63, _, _, _, _, _⟩) (v := ?_) rfl (by kernel_rfl) (by kernel_rfl) (by kernel_rfl) (fun _ _ _ h => h) (Or.inl ⟨by rfl, ?_⟩) (by assumption) ?_
    rotate_left
    · (intro u hu; (try dsimp only at hu); go_simp; (try with_reducible rfl))
    (try simp only [Act.put, List.setIfInBounds_toArray, List.set_cons_zero, List.set_cons_succ])
    refine wpAnyH_take (i := 17) (oi := ⟨some 65, _, _, _, _, _⟩) (v := ?_) rfl (by kernel_rfl) (by kernel_rfl) (by kernel_rfl) (fun _ _ _ h => h) (Or.inl ⟨by rfl, ?_⟩) (by assumption) ?_
    rotate_left
    · (intro u hu; (try dsimp only at hu); go_simp; (try with_reducible rfl))
    (try simp only [Act.put, List.setIfInBounds_toArray, List.set_cons_zero, List.set_cons_succ])
    refine wpAnyH_ready (rs := [16]) (by kernel_rfl) (by simp) ?_
    refine AllReadyH.cons (o := ⟨some 64, _, _, _, _, _⟩) rfl (fun K hK => ?_) AllReadyH.nil
    go_simp
    refine (HG1.out _ (HW8.out.trans (hb1.mono HW8.out.size))).mono ?_
    rintro e v2 ⟨rfl, b2⟩
    have hb2 := hb1.trans (b2.mono hb1.size)
    go_wp2_with fail
    refine hK.out _ _ ?_ (fun hHeld => ?_)
    · exact hb2
    clear hK K
    (try simp only [Act.put, List.setIfInBounds_toArray, List.set_cons_zero, List.set_cons_succ])
    refine wpAnyH_ready (rs := [18]) (by kernel_rfl) (by simp) ?_
    refine AllReadyH.cons (o := ⟨some 66, _, _, _, _, _⟩) rfl (fun K hK => ?_) AllReadyH.nil
    go_simp
    refine (HG2.out _ (HW8.out.trans (hb2.mono HW8.out.size))).mono ?_
    rintro e v3 ⟨rfl, b3⟩
    have hb3 := hb2.trans (b3.mono hb2.size)
    go_wp2_with fail
    refine hK.out _ _ ?_ (fun hHeld => ?_)
    · exact hb3
    clear hK K
    (try simp only [Act.put, List.setIfInBounds_toArray, List.set_cons_zero, List.set_cons_succ])
    refine wpAnyH_take (i := 19) (oi := ⟨some 67, _, _, _, _, _⟩) (v := ?_) rfl (by kernel_rfl) (by kernel_rfl) (by kernel_rfl) (fun _ _ _ h => h) (Or.inl ⟨by rfl, ?_⟩) (by assumption) ?_
    rotate_left
    · (intro u hu; (try dsimp only at hu); go_simp; (try with_reducible rfl))
    (try simp only [Act.put, List.setIfInBounds_toArray, List.set_cons_zero, List.set_cons_succ])
    refine wpAnyH_take (i := 20) (oi := ⟨some 68, _, _, _, _, _⟩) (v := ?_) rfl (by kernel_rfl) (by kernel_rfl) (by kernel_rfl) (fun _ _ _ h => h) (Or.inl ⟨by rfl, ?_⟩) (by assumption) ?_
    rotate_left
    · (intro u hu; (try dsimp only at hu); go_simp; (try with_reducible rfl))
    (try simp only [Act.put, List.setIfInBounds_toArray, List.set_cons_zero, List.set_cons_succ])
    refine wpAnyH_done (by kernel_rfl) ?_ _
    go_wp2_with fail
    go_meet
    exact ⟨rfl, Lib.hid hb3⟩
  case rest =>
    obtain ⟨rfl, HWx⟩ := hcut
    have HXa := Lib.hid (HX8.out.below HWx.out HX8.out.lt)
    have HXp := Lib.hid (HX6.out.below HWx.out HX6.out.lt)
    have HWa := Lib.hid (HW8.out.trans (HWx.out.mono HW8.out.size))
    have HI4 := Lib.hid (HI3.out _ HWx.out)
    clear HWx HX8 HX6 HX9 HW8 HS5 HS6 HSa HI3 HG1
    go_upto_if 70 with fail
    go_cut [11, 12] from 70 to 84 (fun _ _ wx => Hid (Below wc.heap.size wc wx))
    case first =>
      by_cases he : er = 0
      · as_aux_lemma =>
        have hoe : ((er : Int) == 0) = true := by simp [he]
        have HPX : Hid (Calls Try.prog 24 #[.agg #[.int .i64 X.k, .int .i64 X.now, .int .i64 X.sg, .string X.nm, .int .i64 X.r.sg, .int .i64 X.r.sp, .bool X.r.un, .int .i64 X.r.tr, .bool X.r.good, .string X.dn, .int .i64 X.dl, .slice A3 n3 c3]] wc (PutTo wc (eventF X))) := Lib.hid (putEvent_yes X A3 n3 c3 wc HI4.out (HT2.out he).1)
        have HTe := Lib.hid (HT2.out he).2
        clear he
        obtain ⟨ce0, ce1, ce2, ce3, ce4, ce5, ce6, ce7, ce8, ce9, ce10, ce11⟩ := evc (v := X) HXp.out
        go_wp2_with fail
        refine HPX.out.mono ?_
        rintro e w5 ⟨A5, c5, rfl, hc5, hy5, b5⟩
        have HB5 := Lib.hid b5
        have hc2 := HCB.out _ (HWa.out.trans (b5.mono HWa.out.size))
        have hc3 : (convert 25 9 (.slice A5 (eventF X).length c5)).run Try.prog w5 = .ok (.string t2) w5 := by rw [HTe.out]; exact hy5.text 25 5 9 Try.underlying25 Try.underlying5 Try.underlying9 c5
        clear hy5 hc5 b5 ce0 ce1 ce2 ce3 ce4 ce5 ce6 ce7 ce8 ce9 ce10 ce11 HPX
        go_wp2_with fail
        go_meet
        exact HB5
      · as_aux_lemma =>
        have hoe : ((er : Int) == 0) = false := by simpa using he
        clear he
        go_wp2_with fail
        go_meet
        exact Lib.hid (Below.refl _ _)
    case rest =>
      have HXb := Lib.hid (HXa.out.below hcut.out HXa.out.lt)
      have HWb := Lib.hid (HWa.out.trans (hcut.out.mono HWa.out.size))
      clear hcut HXa HXp HWa HI4 HT2 HT2' HCB HN3 HN4 HC3 HC4
      obtain ⟨ce0, ce1, ce2, ce3, ce4, ce5, ce6, ce7, ce8, ce9, ce10, ce11⟩ := evc (v := v) HXb.out
      cases hgv : gb with
      | false =>
        subst hgv
        have HPN : Hid (∀ W, Below w.heap.size w W → Calls Try.prog 24 #[.agg #[.int .i64 v.k, .int .i64 v.now, .int .i64 v.sg, .string v.nm, .int .i64 v.r.sg, .int .i64 v.r.sp, .bool v.r.un, .int .i64 v.r.tr, .bool v.r.good, .string v.dn, .int .i64 v.dl, .slice A n c]] W fun e w' => e = .returned (.tuple #[.slice none 0 0, .int .i64 3]) ∧ Below W.heap.size W w') := Lib.hid fun W h => putEvent_no v A n c W (HIn.out W h) HGb.out.symm
        go_wp2_with fail
        refine (HPN.out _ HWb.out).mono ?_
        rintro e w6 ⟨rfl, b6⟩
        have HXc := Lib.hid (HXb.out.below b6 HXb.out.lt)
        have HWc := Lib.hid (HWb.out.trans (b6.mono HWb.out.size))
        clear b6 ce0 ce1 ce2 ce3 ce4 ce5 ce6 ce7 ce8 ce9 ce10 ce11 HXb HWb HPN
        obtain ⟨ce0, ce1, ce2, ce3, ce4, ce5, ce6, ce7, ce8, ce9, ce10, ce11⟩ := evc (v := v) HXc.out
        go_wp2_with fail
        refine (HG2.out _ HWc.out).mono ?_
        rintro e w7 ⟨rfl, b7⟩
        have HWd := Lib.hid (HWc.out.trans (b7.mono HWc.out.size))
        clear b7
        go_wp2
        go_ret
        exact ⟨rfl, HWd.out⟩
      | true =>
        subst hgv
        have HPY : Hid (∀ W, Below w.heap.size w W → Calls Try.prog 24 #[.agg #[.int .i64 v.k, .int .i64 v.now, .int .i64 v.sg, .string v.nm, .int .i64 v.r.sg, .int .i64 v.r.sp, .bool v.r.un, .int .i64 v.r.tr, .bool v.r.good, .string v.dn, .int .i64 v.dl, .slice A n c]] W (PutTo W (eventF v))) := Lib.hid fun W h => putEvent_yes v A n c W (HIn.out W h) HGb.out.symm
        obtain ⟨L, hL⟩ : ∃ L, L = eventF v := ⟨_, rfl⟩
        obtain ⟨t1, ht1⟩ : ∃ t, t = sb L := ⟨_, rfl⟩
        obtain ⟨Y, hY⟩ : ∃ Y, Y = clE v := ⟨_, rfl⟩
        have hLl : L.length ≤ 4000000000 := by rw [hL, HLe.out]; have := HLr.out; omega
        have HT1 := Lib.hid ht1
        have HTd : Hid (∀ A c W, Byt W W.heap.size A L → Calls Try.prog 19 #[.slice A L.length c] W fun e w' => ∃ A n c, e = .returned (.tuple #[.agg #[.int .i64 Y.k, .int .i64 Y.now, .int .i64 Y.sg, .string Y.nm, .int .i64 Y.r.sg, .int .i64 Y.r.sp, .bool Y.r.un, .int .i64 Y.r.tr, .bool Y.r.good, .string Y.dn, .int .i64 Y.dl, .slice A n c], .int .i64 0, .int .i64 0]) ∧ n = Y.ss.length ∧ n ≤ c ∧ Df.Steps w' w'.heap.size A Y.ss ∧ Below W.heap.size W w') := Lib.hid fun A c W hb => by
          have h := take_is L (by omega) A c W hb
          rw [show evA L = (clE v, 0, 0) by rw [hL]; exact ev_put HGb.out.symm HFt.out] at h
          rw [hY]
          exact h
        have HRE : Hid (∀ W, Below w.heap.size w W → Calls Try.prog 25 #[.agg #[.int .i64 v.k, .int .i64 v.now, .int .i64 v.sg, .string v.nm, .int .i64 v.r.sg, .int .i64 v.r.sp, .bool v.r.un, .int .i64 v.r.tr, .bool v.r.good, .string v.dn, .int .i64 v.dl, .slice A n c]] W fun e w' => e = .returned (.string t1) ∧ Made W w') := Lib.hid fun W h => by rw [ht1, hL]; exact revent_s v A n c W (HIn.out W h)
        have HYv : Hid (v.sg ≤ 4611686018427387904 ∧ v.r.sg ≤ 4611686018427387904 ∧ v.r.sp ≤ 4611686018427387904 ∧ v.r.tr ≤ 4611686018427387904 → Y = v) := Lib.hid fun h => by rw [hY]; exact clE_id HGb.out.symm h
        rw [← hL] at HPY
        clear hL ht1 hY
        go_wp2_with fail
        refine (HPY.out _ HWb.out).mono ?_
        rintro e w6 ⟨A2, c2, rfl, hc2, hy2, b6⟩
        have HXc := Lib.hid (HXb.out.below b6 HXb.out.lt)
        have HWc := Lib.hid (HWb.out.trans (b6.mono HWb.out.size))
        have HY2 := Lib.hid hy2
        clear b6 hy2 hc2 ce0 ce1 ce2 ce3 ce4 ce5 ce6 ce7 ce8 ce9 ce10 ce11 HXb HWb HPY
        obtain ⟨ce0, ce1, ce2, ce3, ce4, ce5, ce6, ce7, ce8, ce9, ce10, ce11⟩ := evc (v := v) HXc.out
        go_wp2_with fail
        refine (HG2.out _ HWc.out).mono ?_
        rintro e w7 ⟨rfl, b7⟩
        have HXd := Lib.hid (HXc.out.below b7 HXc.out.lt)
        have HWd := Lib.hid (HWc.out.trans (b7.mono HWc.out.size))
        have HY3 := Lib.hid ((HY2.out.below b7).more b7.size)
        clear b7 ce0 ce1 ce2 ce3 ce4 ce5 ce6 ce7 ce8 ce9 ce10 ce11 HXc HWc HY2 HG2
        go_wp2_with fail
        refine (HTd.out A2 c2 _ HY3.out).mono ?_
        rintro e w8 ⟨A6, n6, c6, rfl, hn6, hc6, hS6, b8⟩
        have hbn := (Below.refl w8.heap.size w8).alloc (Nat.le_refl _) (.cells #[.int .i64 Y.k, .int .i64 Y.now, .int .i64 Y.sg, .string Y.nm, .int .i64 Y.r.sg, .int .i64 Y.r.sp, .bool Y.r.un, .int .i64 Y.r.tr, .bool Y.r.good, .string Y.dn, .int .i64 Y.dl, .slice A6 n6 c6] 51)
        have HXe := Lib.hid ((HXd.out.below b8 HXd.out.lt).alloc (.cells #[.int .i64 Y.k, .int .i64 Y.now, .int .i64 Y.sg, .string Y.nm, .int .i64 Y.r.sg, .int .i64 Y.r.sp, .bool Y.r.un, .int .i64 Y.r.tr, .bool Y.r.good, .string Y.dn, .int .i64 Y.dl, .slice A6 n6 c6] 51))
        have HWe' := HWd.out.trans (b8.mono HWd.out.size)
        have HWe := Lib.hid (HWe'.alloc HWe'.size (.cells #[.int .i64 Y.k, .int .i64 Y.now, .int .i64 Y.sg, .string Y.nm, .int .i64 Y.r.sg, .int .i64 Y.r.sp, .bool Y.r.un, .int .i64 Y.r.tr, .bool Y.r.good, .string Y.dn, .int .i64 Y.dl, .slice A6 n6 c6] 51))
        have HY4 := Lib.hid (((HY3.out.below b8).more b8.size).below hbn |>.more hbn.size)
        have HXz := Lib.hid (Box.new w8 51 #[.int .i64 Y.k, .int .i64 Y.now, .int .i64 Y.sg, .string Y.nm, .int .i64 Y.r.sg, .int .i64 Y.r.sp, .bool Y.r.un, .int .i64 Y.r.tr, .bool Y.r.good, .string Y.dn, .int .i64 Y.dl, .slice A6 n6 c6])
        have HN6 := Lib.hid hn6
        have HC6 := Lib.hid hc6
        have HS7 := Lib.hid (hS6.on hbn)
        clear hbn b8 hn6 hc6 hS6 HWe' HXd HWd HY3 HTd
        go_upto_region 17 with fail
        generalize w8.alloc (.cells #[.int .i64 Y.k, .int .i64 Y.now, .int .i64 Y.sg, .string Y.nm, .int .i64 Y.r.sg, .int .i64 Y.r.sp, .bool Y.r.un, .int .i64 Y.r.tr, .bool Y.r.good, .string Y.dn, .int .i64 Y.dl, .slice A6 n6 c6] 51) = V8 at *
        obtain ⟨ce0, ce1, ce2, ce3, ce4, ce5, ce6, ce7, ce8, ce9, ce10, ce11⟩ := evc (v := v) HXe.out
        obtain ⟨M, hM⟩ : ∃ M, M = mx (mx (mx v.sg v.r.sg) v.r.sp) v.r.tr := ⟨_, rfl⟩
        have HMx := Lib.hid hM
        clear hM
        by_cases hbig : 4611686018427387904 < M
        · as_aux_lemma =>
          have gM : decide (4611686018427387904 < M) = true := decide_eq_true hbig
          clear hbig
          go_wp2_with (refine wpList_max4 rfl (.tmp 107) (.tmp 110) (.tmp 113) (.tmp 116) _ rfl _ _ _ _ M rfl rfl rfl rfl HMx.out ?_)
          go_ret
          exact ⟨rfl, HWe.out⟩
        · as_aux_lemma =>
          have gM : decide (4611686018427387904 < M) = false := decide_eq_false hbig
          have hYv : v = Y := (HYv.out (by
            have hle : M ≤ 4611686018427387904 := by omega
            rw [HMx.out] at hle
            have l3 := mx_le hle
            have l2 := mx_le l3.1
            have l1 := mx_le l2.1
            exact ⟨l1.1, l1.2, l2.2, l3.2⟩)).symm
          subst hYv
          clear hbig HYv
          go_upto_region 19 with (refine wpList_max4 rfl (.tmp 107) (.tmp 110) (.tmp 113) (.tmp 116) _ rfl _ _ _ _ M rfl rfl rfl rfl HMx.out ?_)
          clear ce0 ce1 ce2 ce3 ce4 ce5 ce6 ce7 ce8 ce9 ce10 ce11 gM
          have a0 : ∀ u, Below V8.heap.size V8 u → u.cell? ⟨w.heap.size, 0, none⟩ = some (.int .i64 v.k) := fun u H => (H.cell (p := ⟨w.heap.size, 0, none⟩) HXe.out.lt).trans (HXe.out.cell 0)
          have a1 : ∀ u, Below V8.heap.size V8 u → u.cell? ⟨w.heap.size, 1, none⟩ = some (.int .i64 v.now) := fun u H => (H.cell (p := ⟨w.heap.size, 1, none⟩) HXe.out.lt).trans (HXe.out.cell 1)
          have a2 : ∀ u, Below V8.heap.size V8 u → u.cell? ⟨w.heap.size, 2, none⟩ = some (.int .i64 v.sg) := fun u H => (H.cell (p := ⟨w.heap.size, 2, none⟩) HXe.out.lt).trans (HXe.out.cell 2)
          have a3 : ∀ u, Below V8.heap.size V8 u → u.cell? ⟨w.heap.size, 3, none⟩ = some (.string v.nm) := fun u H => (H.cell (p := ⟨w.heap.size, 3, none⟩) HXe.out.lt).trans (HXe.out.cell 3)
          have a4 : ∀ u, Below V8.heap.size V8 u → u.cell? ⟨w.heap.size, 4, none⟩ = some (.int .i64 v.r.sg) := fun u H => (H.cell (p := ⟨w.heap.size, 4, none⟩) HXe.out.lt).trans (HXe.out.cell 4)
          have a5 : ∀ u, Below V8.heap.size V8 u → u.cell? ⟨w.heap.size, 5, none⟩ = some (.int .i64 v.r.sp) := fun u H => (H.cell (p := ⟨w.heap.size, 5, none⟩) HXe.out.lt).trans (HXe.out.cell 5)
          have a6 : ∀ u, Below V8.heap.size V8 u → u.cell? ⟨w.heap.size, 6, none⟩ = some (.bool v.r.un) := fun u H => (H.cell (p := ⟨w.heap.size, 6, none⟩) HXe.out.lt).trans (HXe.out.cell 6)
          have a7 : ∀ u, Below V8.heap.size V8 u → u.cell? ⟨w.heap.size, 7, none⟩ = some (.int .i64 v.r.tr) := fun u H => (H.cell (p := ⟨w.heap.size, 7, none⟩) HXe.out.lt).trans (HXe.out.cell 7)
          have a8 : ∀ u, Below V8.heap.size V8 u → u.cell? ⟨w.heap.size, 8, none⟩ = some (.bool v.r.good) := fun u H => (H.cell (p := ⟨w.heap.size, 8, none⟩) HXe.out.lt).trans (HXe.out.cell 8)
          have a9 : ∀ u, Below V8.heap.size V8 u → u.cell? ⟨w.heap.size, 9, none⟩ = some (.string v.dn) := fun u H => (H.cell (p := ⟨w.heap.size, 9, none⟩) HXe.out.lt).trans (HXe.out.cell 9)
          have a10 : ∀ u, Below V8.heap.size V8 u → u.cell? ⟨w.heap.size, 10, none⟩ = some (.int .i64 v.dl) := fun u H => (H.cell (p := ⟨w.heap.size, 10, none⟩) HXe.out.lt).trans (HXe.out.cell 10)
          have a11 : ∀ u, Below V8.heap.size V8 u → u.cell? ⟨w.heap.size, 11, none⟩ = some (.slice A n c) := fun u H => (H.cell (p := ⟨w.heap.size, 11, none⟩) HXe.out.lt).trans (HXe.out.cell 11)
          have z0 : ∀ u, Below V8.heap.size V8 u → u.cell? ⟨w8.heap.size, 0, none⟩ = some (.int .i64 v.k) := fun u H => (H.cell (p := ⟨w8.heap.size, 0, none⟩) HXz.out.lt).trans (HXz.out.cell 0)
          have z1 : ∀ u, Below V8.heap.size V8 u → u.cell? ⟨w8.heap.size, 1, none⟩ = some (.int .i64 v.now) := fun u H => (H.cell (p := ⟨w8.heap.size, 1, none⟩) HXz.out.lt).trans (HXz.out.cell 1)
          have z2 : ∀ u, Below V8.heap.size V8 u → u.cell? ⟨w8.heap.size, 2, none⟩ = some (.int .i64 v.sg) := fun u H => (H.cell (p := ⟨w8.heap.size, 2, none⟩) HXz.out.lt).trans (HXz.out.cell 2)
          have z3 : ∀ u, Below V8.heap.size V8 u → u.cell? ⟨w8.heap.size, 3, none⟩ = some (.string v.nm) := fun u H => (H.cell (p := ⟨w8.heap.size, 3, none⟩) HXz.out.lt).trans (HXz.out.cell 3)
          have z4 : ∀ u, Below V8.heap.size V8 u → u.cell? ⟨w8.heap.size, 4, none⟩ = some (.int .i64 v.r.sg) := fun u H => (H.cell (p := ⟨w8.heap.size, 4, none⟩) HXz.out.lt).trans (HXz.out.cell 4)
          have z5 : ∀ u, Below V8.heap.size V8 u → u.cell? ⟨w8.heap.size, 5, none⟩ = some (.int .i64 v.r.sp) := fun u H => (H.cell (p := ⟨w8.heap.size, 5, none⟩) HXz.out.lt).trans (HXz.out.cell 5)
          have z6 : ∀ u, Below V8.heap.size V8 u → u.cell? ⟨w8.heap.size, 6, none⟩ = some (.bool v.r.un) := fun u H => (H.cell (p := ⟨w8.heap.size, 6, none⟩) HXz.out.lt).trans (HXz.out.cell 6)
          have z7 : ∀ u, Below V8.heap.size V8 u → u.cell? ⟨w8.heap.size, 7, none⟩ = some (.int .i64 v.r.tr) := fun u H => (H.cell (p := ⟨w8.heap.size, 7, none⟩) HXz.out.lt).trans (HXz.out.cell 7)
          have z8 : ∀ u, Below V8.heap.size V8 u → u.cell? ⟨w8.heap.size, 8, none⟩ = some (.bool v.r.good) := fun u H => (H.cell (p := ⟨w8.heap.size, 8, none⟩) HXz.out.lt).trans (HXz.out.cell 8)
          have z9 : ∀ u, Below V8.heap.size V8 u → u.cell? ⟨w8.heap.size, 9, none⟩ = some (.string v.dn) := fun u H => (H.cell (p := ⟨w8.heap.size, 9, none⟩) HXz.out.lt).trans (HXz.out.cell 9)
          have z10 : ∀ u, Below V8.heap.size V8 u → u.cell? ⟨w8.heap.size, 10, none⟩ = some (.int .i64 v.dl) := fun u H => (H.cell (p := ⟨w8.heap.size, 10, none⟩) HXz.out.lt).trans (HXz.out.cell 10)
          have z11 : ∀ u, Below V8.heap.size V8 u → u.cell? ⟨w8.heap.size, 11, none⟩ = some (.slice A6 n6 c6) := fun u H => (H.cell (p := ⟨w8.heap.size, 11, none⟩) HXz.out.lt).trans (HXz.out.cell 11)
          have HIz : Hid (∀ u, Below V8.heap.size V8 u → EvIn u v A6 n6 c6) := Lib.hid fun u H => ⟨HN6.out, HC6.out, HM.out, (HIn.out _ HWe.out).nm, HS7.out.on H⟩
          have hcv : ∀ u, Below V8.heap.size V8 u → (convert 25 9 (.slice A2 L.length c2)).run Try.prog u = .ok (.string t1) u := fun u H => by rw [HT1.out]; exact (HY4.out.below H).text 25 5 9 Try.underlying25 Try.underlying5 Try.underlying9 c2
          refine wp_region_held_drew (S := fun u => Below V8.heap.size V8 u) (by kernel_rfl) (Below.drew (Below.refl _ _)) (fun hHeld => ?_)
          refine wpAnyH_take (i := 0) (oi := ⟨some 125, _, _, _, _, _⟩) (v := ?_) rfl (by kernel_rfl) (by kernel_rfl) (by kernel_rfl) (fun _ _ _ h => h) (Or.inl ⟨by rfl, ?_⟩) (by assumption) ?_
          rotate_left
          · (intro u hu; (try dsimp only at hu); go_simp; (try with_reducible rfl))
          (try simp only [Act.put, List.setIfInBounds_toArray, List.set_cons_zero, List.set_cons_succ])
          refine wpAnyH_take (i := 1) (oi := ⟨some 126, _, _, _, _, _⟩) (v := ?_) rfl (by kernel_rfl) (by kernel_rfl) (by kernel_rfl) (fun _ _ _ h => h) (Or.inl ⟨by rfl, ?_⟩) (by assumption) ?_
          rotate_left
          · (intro u hu; (try dsimp only at hu); go_simp; (try with_reducible rfl))
          (try simp only [Act.put, List.setIfInBounds_toArray, List.set_cons_zero, List.set_cons_succ])
          refine wpAnyH_take (i := 2) (oi := ⟨some 127, _, _, _, _, _⟩) (v := ?_) rfl (by kernel_rfl) (by kernel_rfl) (by kernel_rfl) (fun _ _ _ h => h) (Or.inl ⟨by rfl, ?_⟩) (by assumption) ?_
          rotate_left
          · (intro u hu; (try dsimp only at hu); go_simp; (try with_reducible rfl))
          (try simp only [Act.put, List.setIfInBounds_toArray, List.set_cons_zero, List.set_cons_succ])
          refine wpAnyH_take (i := 3) (oi := ⟨some 128, _, _, _, _, _⟩) (v := ?_) rfl (by kernel_rfl) (by kernel_rfl) (by kernel_rfl) (fun _ _ _ h => h) (Or.inl ⟨by rfl, ?_⟩) (by assumption) ?_
          rotate_left
          · (intro u hu; (try dsimp only at hu); go_simp; (try with_reducible rfl))
          (try simp only [Act.put, List.setIfInBounds_toArray, List.set_cons_zero, List.set_cons_succ])
          refine wpAnyH_take (i := 4) (oi := ⟨some 129, _, _, _, _, _⟩) (v := ?_) rfl (by kernel_rfl) (by kernel_rfl) (by kernel_rfl) (fun _ _ _ h => h) (Or.inl ⟨by rfl, ?_⟩) (by assumption) ?_
          rotate_left
          · (intro u hu; (try dsimp only at hu); go_simp; (try with_reducible rfl))
          (try simp only [Act.put, List.setIfInBounds_toArray, List.set_cons_zero, List.set_cons_succ])
          refine wpAnyH_take (i := 5) (oi := ⟨some 130, _, _, _, _, _⟩) (v := ?_) rfl (by kernel_rfl) (by kernel_rfl) (by kernel_rfl) (fun _ _ _ h => h) (Or.inl ⟨by rfl, ?_⟩) (by assumption) ?_
          rotate_left
          · (intro u hu; (try dsimp only at hu); go_simp; (try with_reducible rfl))
          (try simp only [Act.put, List.setIfInBounds_toArray, List.set_cons_zero, List.set_cons_succ])
          refine wpAnyH_ready (rs := [6]) (by kernel_rfl) (by simp) ?_
          refine AllReadyH.cons (o := ⟨some 131, _, _, _, _, _⟩) rfl (fun K hK => ?_) AllReadyH.nil
          go_simp
          refine (HRE.out _ (HWe.out.trans (Below.drew (Below.mono (Below.refl V8.heap.size V8) HWe.out.size)))).mono ?_
          rintro e v1 ⟨rfl, hm1⟩
          have hb1 := (Below.drew (Below.refl V8.heap.size V8)).trans (hm1.below.mono (Nat.le_refl _))
          go_wp2_with fail
          refine hK.out _ _ ?_ (fun hHeld => ?_)
          · exact hb1
          clear hK K
          (try simp only [Act.put, List.setIfInBounds_toArray, List.set_cons_zero, List.set_cons_succ])
          refine wpAnyH_take (i := 7) (oi := ⟨some 132, _, _, _, _, _⟩) (v := ?_) rfl (by kernel_rfl) (by kernel_rfl) (by kernel_rfl) (fun _ _ _ h => h) (Or.inl ⟨by rfl, ?_⟩) (by assumption) ?_
          rotate_left
          · (intro u hu; (try dsimp only at hu); go_simp; (try with_reducible rfl))
          (try simp only [Act.put, List.setIfInBounds_toArray, List.set_cons_zero, List.set_cons_succ])
          refine wpAnyH_take (i := 8) (oi := ⟨some 133, _, _, _, _, _⟩) (v := ?_) rfl (by kernel_rfl) (by kernel_rfl) (by kernel_rfl) (fun _ _ _ h => h) (Or.inl ⟨by rfl, ?_⟩) (by assumption) ?_
          rotate_left
          · (intro u hu; (try dsimp only at hu); go_simp; (try with_reducible rfl))
          (try simp only [Act.put, List.setIfInBounds_toArray, List.set_cons_zero, List.set_cons_succ])
          refine wpAnyH_take (i := 9) (oi := ⟨some 134, _, _, _, _, _⟩) (v := ?_) rfl (by kernel_rfl) (by kernel_rfl) (by kernel_rfl) (fun _ _ _ h => h) (Or.inl ⟨by rfl, ?_⟩) (by assumption) ?_
          rotate_left
          · (intro u hu; (try dsimp only at hu); go_simp; (try with_reducible rfl))
          (try simp only [Act.put, List.setIfInBounds_toArray, List.set_cons_zero, List.set_cons_succ])
          refine wpAnyH_take (i := 10) (oi := ⟨some 135, _, _, _, _, _⟩) (v := ?_) rfl (by kernel_rfl) (by kernel_rfl) (by kernel_rfl) (fun _ _ _ h => h) (Or.inl ⟨by rfl, ?_⟩) (by assumption) ?_
          rotate_left
          · (intro u hu; (try dsimp only at hu); go_simp; (try with_reducible rfl))
          (try simp only [Act.put, List.setIfInBounds_toArray, List.set_cons_zero, List.set_cons_succ])
          refine wpAnyH_take (i := 11) (oi := ⟨some 136, _, _, _, _, _⟩) (v := ?_) rfl (by kernel_rfl) (by kernel_rfl) (by kernel_rfl) (fun _ _ _ h => h) (Or.inl ⟨by rfl, ?_⟩) (by assumption) ?_
          rotate_left
          · (intro u hu; (try dsimp only at hu); go_simp; (try with_reducible rfl))
          (try simp only [Act.put, List.setIfInBounds_toArray, List.set_cons_zero, List.set_cons_succ])
          refine wpAnyH_take (i := 12) (oi := ⟨some 137, _, _, _, _, _⟩) (v := ?_) rfl (by kernel_rfl) (by kernel_rfl) (by kernel_rfl) (fun _ _ _ h => h) (Or.inl ⟨by rfl, ?_⟩) (by assumption) ?_
          rotate_left
          · (intro u hu; (try dsimp only at hu); go_simp; (try with_reducible rfl))
          (try simp only [Act.put, List.setIfInBounds_toArray, List.set_cons_zero, List.set_cons_succ])
          refine wpAnyH_take (i := 13) (oi := ⟨some 138, _, _, _, _, _⟩) (v := ?_) rfl (by kernel_rfl) (by kernel_rfl) (by kernel_rfl) (fun _ _ _ h => h) (Or.inl ⟨by rfl, ?_⟩) (by assumption) ?_
          rotate_left
          · (intro u hu; (try dsimp only at hu); go_simp; (try with_reducible rfl))
          (try simp only [Act.put, List.setIfInBounds_toArray, List.set_cons_zero, List.set_cons_succ])
          refine wpAnyH_take (i := 14) (oi := ⟨some 139, _, _, _, _, _⟩) (v := ?_) rfl (by kernel_rfl) (by kernel_rfl) (by kernel_rfl) (fun _ _ _ h => h) (Or.inl ⟨by rfl, ?_⟩) (by assumption) ?_
          rotate_left
          · (intro u hu; (try dsimp only at hu); go_simp; (try with_reducible rfl))
          (try simp only [Act.put, List.setIfInBounds_toArray, List.set_cons_zero, List.set_cons_succ])
          refine wpAnyH_take (i := 15) (oi := ⟨some 140, _, _, _, _, _⟩) (v := ?_) rfl (by kernel_rfl) (by kernel_rfl) (by kernel_rfl) (fun _ _ _ h => h) (Or.inl ⟨by rfl, ?_⟩) (by assumption) ?_
          rotate_left
          · (intro u hu; (try dsimp only at hu); go_simp; (try with_reducible rfl))
          (try simp only [Act.put, List.setIfInBounds_toArray, List.set_cons_zero, List.set_cons_succ])
          refine wpAnyH_ready (rs := [16]) (by kernel_rfl) (by simp) ?_
          refine AllReadyH.cons (o := ⟨some 141, _, _, _, _, _⟩) rfl (fun K hK => ?_) AllReadyH.nil
          go_simp
          refine (resame_s v A6 A n6 c6 n c _ (HIz.out _ hb1) (HIn.out _ (HWe.out.trans (hb1.mono HWe.out.size)))).mono ?_
          rintro e v2 ⟨rfl, b2⟩
          have hb2 := hb1.trans (b2.mono hb1.size)
          go_wp2_with fail
          refine hK.out _ _ ?_ (fun hHeld => ?_)
          · exact hb2
          clear hK K
          (try simp only [Act.put, List.setIfInBounds_toArray, List.set_cons_zero, List.set_cons_succ])
          refine wpAnyH_take (i := 17) (oi := ⟨some 142, _, _, _, _, _⟩) (v := ?_) rfl (by kernel_rfl) (by kernel_rfl) (by kernel_rfl) (fun _ _ _ h => h) (Or.inl ⟨by rfl, ?_⟩) (by assumption) ?_
          rotate_left
          · (intro u hu; (try dsimp only at hu); go_simp; (try with_reducible rfl))
          (try simp only [Act.put, List.setIfInBounds_toArray, List.set_cons_zero, List.set_cons_succ])
          refine wpAnyH_take (i := 18) (oi := ⟨some 4, _, _, _, _, _⟩) (v := ?_) rfl (by kernel_rfl) (by kernel_rfl) (by kernel_rfl) (fun _ _ _ h => h) (Or.inl ⟨by rfl, ?_⟩) (by assumption) ?_
          rotate_left
          · (intro u hu; (try dsimp only at hu); go_simp; (try with_reducible rfl))
          (try simp only [Act.put, List.setIfInBounds_toArray, List.set_cons_zero, List.set_cons_succ])
          refine wpAnyH_done (by kernel_rfl) ?_ _
          go_wp2_with fail
          go_ret
          exact ⟨rfl, HWe.out.trans (hb2.mono HWe.out.size)⟩

set_option maxRecDepth 100000 in
theorem lifted (os : Os) (started : os.Started) (H : Type) (enc : TypeId × Value → H) :
    ReturnsInHanded {} Try.checked os 5 .any (Rows.codeEventsSpec.pre6 enc Try.prog Try.f5 Rows.codeEventsRow.domain false) (Rows.codeEventsSpec.post enc Try.prog Try.f5 false true false false) := by
  refine returnsInHanded_of_change_sized (C := Try.checked) own started (by kernel_rfl) Try.func5
    (ChangeSpec.witness6 (enc := enc) (C := Try.checked) false ⟨#[], #[.agg #[.int .i64 0, .int .i64 0, .int .i64 0, .string ⟨#[]⟩, .int .i64 0, .int .i64 0, .bool false, .int .i64 0, .bool false, .string ⟨#[]⟩, .int .i64 0, .slice none 0 0], .slice none 0 0], []⟩ 8 (by kernel_rfl) (by kernel_rfl) (by kernel_rfl) (by kernel_rfl)) ?_
  intro W base args ds gs before hval0 hW _ _ _
  have hval : ∀ (j : Nat) t v, Try.f5.params[j]? = some t → args[j]? = some v → Value.okWide Try.prog W .any base t v := hval0
  have hW' := hW
  obtain ⟨p, q, hA0, hV, rfl, _, _⟩ := hW
  have hA : DataW.TrodAll enc Try.prog W 0 (fun _ => true) true Try.f5.params.toList args.toList ds p := hA0
  rw [Try.params5] at hA hval
  obtain ⟨rfl, rfl⟩ := trodVars_none hV
  obtain ⟨v0, vs0, d0, ds0, p0, q0, hargs, rfl, rfl, h0, r0⟩ := trodAll_cons hA
  obtain ⟨v1, vs1, d1, ds1, p1, q1, rfl, rfl, rfl, h1, r1⟩ := trodAll_cons r0
  obtain ⟨rfl, rfl, rfl⟩ := trodAll_nil r1
  obtain rfl : args = #[v0, v1] := by cases args; simp_all
  obtain ⟨x0, A0, c0, y0, z0, n0, cc0, f0, e0⟩ := arg_ev (hval 0 51 v0 rfl rfl) h0
  obtain ⟨a1, len1, cap1, rfl⟩ := okWide_slice Try.underlying25 (hval 1 25 v1 rfl rfl)
  clear hA0 hval0
  simp only [List.append_nil] at hW'
  have hlt0 : ∀ x ∈ p0, x.block < W.heap.size := fun x hx => by simpa using hW'.lt x (by simp [hx])
  have hlt1 : ∀ x ∈ p1, x.block < W.heap.size := fun x hx => by simpa using hW'.lt x (by simp [hx])
  subst y0
  obtain ⟨l1, hl1, hc1, hm1, hb1⟩ := arg_bytes h1
  subst hl1
  refine (walk x0 A0 x0.ss.length c0 a1 l1 cap1 W rfl z0 n0 cc0 f0 e0 hm1 hb1).mono fun e W' ⟨he, bel⟩ => ?_
  subst he
  exact ⟨_, rfl, _, _, _, [], _, [], hW', trodAll_mk1 (shut_bool Try.underlying4 _), (trodAll_cons_mk (Below.trod laidOut (by kernel_rfl) (of_decide_eq_true (by kernel_rfl)) h0 bel hlt0) (trodAll_cons_mk (Below.trod laidOut (by kernel_rfl) (of_decide_eq_true (by kernel_rfl)) h1 bel hlt1) trodAll_mk0)), rfl, bel.frame _, fun h => by cases h⟩

/-- the statement -/
theorem proved : Rows.CodeEventsSaid :=
  OpenClaim.holds_of_wide 5 Try.f5 rfl rfl rfl rfl rfl rfl rfl ⟨rfl, rfl, rfl, rfl, rfl⟩ rfl rfl rfl rfl rfl (by kernel_rfl) Try.func5 (by kernel_rfl)
    (of_decide_eq_true (by kernel_rfl)) (by unfold Func.isWrapper; first | (rw [if_pos (by decide +kernel)]; kernel_rfl) | (rw [if_neg (by decide +kernel)]; exact ⟨rfl, rfl⟩))
    (fun os started H enc _ => lifted os started H enc)
#print axioms proved

end Go.Proofs.Ytihkadbcjeohjaa.codeEvents
