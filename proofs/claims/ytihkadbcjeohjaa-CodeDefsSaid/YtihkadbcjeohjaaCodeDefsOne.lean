/-
  The statement CodeDefsSaid: for every input the law function CodeDefs returns true (the form of any definition, and the definition of any bytes, or what is wrong, and where, are as the document says; a right one is taken as it was), and the arguments read afterwards as before.
  Conditions: none.
-/
import Derived.Test.YtihkadbcjeohjaaCodDef
import Derived.Test.YtihkadbcjeohjaaCodEq
import Derived.Test.YtihkadbcjeohjaaCodNum
import Derived.Test.YtihkadbcjeohjaaCodMath
import Derived.Test.YtihkadbcjeohjaaDefEnd
import Derived.Shelf.SlSortCmp.QuietGrown
import Derived.LoopTactic
import Derived.WalkMore
import Derived.Test.YtihkadbcjeohjaaCodTEvent
import Derived.Test.YtihkadbcjeohjaaBofGood
import Derived.Test.YtihkadbcjeohjaaDefCheck
import Derived.Test.YtihkadbcjeohjaaLabRefs
import Derived.Test.YtihkadbcjeohjaaCodRTake
import Derived.Test.YtihkadbcjeohjaaCodGood
import Derived.Test.YtihkadbcjeohjaaDefSame
import Derived.Deep.DeepCutAuto
namespace Go.Proofs.Ytihkadbcjeohjaa.Co
open Go.RowKit
open Go.Proofs.Ytihkadbcjeohjaa.El
open Go.Proofs.Ytihkadbcjeohjaa.Df
open Go.Proofs.Ytihkadbcjeohjaa.Bo (P Made ret_int ret_bool)
open Go.Proofs.Ytihkadbcjeohjaa.Sa (Sg Rp)

theorem wr_new (w : World) (o : Obj) : Wr ((w.alloc o).alloc (.cells #[.slice none 0 0] 71)) w.heap.size (w.heap.size + 1) [] :=
  ⟨Nat.le_succ _, .slice none 0 0, 71, by decide, box_at2 w o 71 #[.slice none 0 0], World.ownsRow_nil _ _ _ _⟩
theorem two_below2 (w : World) (o o' : Obj) : Below w.heap.size w ((w.alloc o).alloc o') ∧ ((w.alloc o).alloc o').heap.size = w.heap.size + 2 := ⟨((Below.refl _ w).alloc (Nat.le_refl _) _).alloc (by simp) _, by simp⟩
/-- bytes of one's own, behind all that was done for them -/
theorem own_on {w u w' : World} {L : List UInt8} {e : Ending} (hb : Below w.heap.size w u) (h : OwnB u L e w') : OwnB w L e w' := by
  obtain ⟨A, c, rfl, hc, hy, hbl⟩ := h
  exact ⟨A, c, rfl, hc, hy, hb.trans (hbl.mono hb.size)⟩
theorem sagaF_len (s : Sg) : (sagaF s).length = 65 + s.dn.size := by
  unfold sagaF
  simp only [List.length_append, nF_len, tF_len, fF_len]
  omega
theorem sgc {u : World} {q : Nat} {s : Sg} (h : Box u q 40 #[.int .i64 s.id, .string s.dn, .int .i64 s.st, .int .i64 s.ph, .int .i64 s.sp, .int .i64 s.tr, .bool s.out, .int .i64 s.at_, .int .i64 s.sk]) : u.cell? ⟨q, 0, none⟩ = some (.int .i64 s.id) ∧ u.cell? ⟨q, 1, none⟩ = some (.string s.dn) ∧ u.cell? ⟨q, 2, none⟩ = some (.int .i64 s.st) ∧ u.cell? ⟨q, 3, none⟩ = some (.int .i64 s.ph) ∧ u.cell? ⟨q, 4, none⟩ = some (.int .i64 s.sp) ∧
    u.cell? ⟨q, 5, none⟩ = some (.int .i64 s.tr) ∧ u.cell? ⟨q, 6, none⟩ = some (.bool s.out) ∧ u.cell? ⟨q, 7, none⟩ = some (.int .i64 s.at_) ∧ u.cell? ⟨q, 8, none⟩ = some (.int .i64 s.sk) :=
  ⟨h.cell 0, h.cell 1, h.cell 2, h.cell 3, h.cell 4, h.cell 5, h.cell 6, h.cell 7, h.cell 8⟩
set_option maxHeartbeats 8000000 in
set_option maxRecDepth 100000 in
theorem putSaga_any (s : Sg) (w : World) (hs : s.dn.size ≤ 1000000) : Calls Try.prog 15 #[.agg #[.int .i64 s.id, .string s.dn, .int .i64 s.st, .int .i64 s.ph, .int .i64 s.sp, .int .i64 s.tr, .bool s.out, .int .i64 s.at_, .int .i64 s.sk]] w (OwnB w (sagaF s)) := by
  have HR0 := Lib.hid (WrAt.refl (wr_new w (.cells #[.int .i64 s.id, .string s.dn, .int .i64 s.st, .int .i64 s.ph, .int .i64 s.sp, .int .i64 s.tr, .bool s.out, .int .i64 s.at_, .int .i64 s.sk] 40)))
  have HX0 := Lib.hid ((Box.new w 40 #[.int .i64 s.id, .string s.dn, .int .i64 s.st, .int .i64 s.ph, .int .i64 s.sp, .int .i64 s.tr, .bool s.out, .int .i64 s.at_, .int .i64 s.sk]).alloc (.cells #[.slice none 0 0] 71))
  have HB := Lib.hid (two_below2 w (.cells #[.int .i64 s.id, .string s.dn, .int .i64 s.st, .int .i64 s.ph, .int .i64 s.sp, .int .i64 s.tr, .bool s.out, .int .i64 s.at_, .int .i64 s.sk] 40) (.cells #[.slice none 0 0] 71))
  have HL := Lib.hid (sagaF_len s)
  go_enter Try.func15, Try.ntmps15
  go_upto_region 2 with fail
  generalize (w.alloc (.cells #[.int .i64 s.id, .string s.dn, .int .i64 s.st, .int .i64 s.ph, .int .i64 s.sp, .int .i64 s.tr, .bool s.out, .int .i64 s.at_, .int .i64 s.sk] 40)).alloc (.cells #[.slice none 0 0] 71) = W0 at *
  obtain ⟨c0, c1, c2, c3, c4, c5, c6, c7, c8⟩ := sgc (s := s) HX0.out
  go_wp2_with fail
  refine (nums1_any (w.heap.size + 1) w.heap.size s.id _ _ HR0.out.wr (by simp)).mono ?_
  rintro e w1 ⟨rfl, hR⟩
  have HR1 := Lib.hid (HR0.out.trans hR)
  have HX1 := Lib.hid (HR1.out.kept _ _ _ (show w.heap.size ≠ w.heap.size + 1 by omega) (by decide) HX0.out)
  clear hR c0 c1 c2 c3 c4 c5 c6 c7 c8
  obtain ⟨c0, c1, c2, c3, c4, c5, c6, c7, c8⟩ := sgc (s := s) HX1.out
  go_wp2_with fail
  refine (wtext_at (w.heap.size + 1) w.heap.size s.dn _ _ HR1.out.wr (by simp only [List.length_append, List.length_nil, nF_len]; omega) (by omega)).mono ?_
  rintro e w2 ⟨rfl, hR⟩
  have HR2 := Lib.hid (HR1.out.trans hR)
  have HX2 := Lib.hid (HR2.out.kept _ _ _ (show w.heap.size ≠ w.heap.size + 1 by omega) (by decide) HX0.out)
  clear hR c0 c1 c2 c3 c4 c5 c6 c7 c8
  obtain ⟨c0, c1, c2, c3, c4, c5, c6, c7, c8⟩ := sgc (s := s) HX2.out
  go_wp2_with fail
  refine (nums4_any (w.heap.size + 1) w.heap.size s.st s.ph s.sp s.tr _ _ HR2.out.wr (by simp only [List.length_append, List.length_nil, nF_len, tF_len]; omega)).mono ?_
  rintro e w3 ⟨rfl, hR⟩
  have HR3 := Lib.hid (HR2.out.trans hR)
  have HX3 := Lib.hid (HR3.out.kept _ _ _ (show w.heap.size ≠ w.heap.size + 1 by omega) (by decide) HX0.out)
  clear hR c0 c1 c2 c3 c4 c5 c6 c7 c8
  obtain ⟨c0, c1, c2, c3, c4, c5, c6, c7, c8⟩ := sgc (s := s) HX3.out
  go_wp2_with fail
  refine (wflag_at (w.heap.size + 1) w.heap.size s.out _ _ HR3.out.wr (by simp only [List.length_append, List.length_nil, nF_len, tF_len]; omega)).mono ?_
  rintro e w4 ⟨rfl, hR⟩
  have HR4 := Lib.hid (HR3.out.trans hR)
  have HX4 := Lib.hid (HR4.out.kept _ _ _ (show w.heap.size ≠ w.heap.size + 1 by omega) (by decide) HX0.out)
  clear hR c0 c1 c2 c3 c4 c5 c6 c7 c8
  obtain ⟨c0, c1, c2, c3, c4, c5, c6, c7, c8⟩ := sgc (s := s) HX4.out
  go_wp2_with fail
  refine (nums2_any (w.heap.size + 1) w.heap.size s.at_ s.sk _ _ HR4.out.wr (by simp only [List.length_append, List.length_nil, nF_len, tF_len, fF_len]; omega)).mono ?_
  rintro e w5 ⟨rfl, hR⟩
  have HR5 := Lib.hid (HR4.out.trans hR)
  have HX5 := Lib.hid (HR5.out.kept _ _ _ (show w.heap.size ≠ w.heap.size + 1 by omega) (by decide) HX0.out)
  clear hR c0 c1 c2 c3 c4 c5 c6 c7 c8
  have HR6 := Lib.hid (HR5.out.as (N := sagaF s) (by unfold sagaF; simp only [List.nil_append, List.append_assoc]))
  go_wp2_with fail
  refine (wbytes_any (w.heap.size + 1) w.heap.size (sagaF s) _ HR6.out.wr (by have := HL.out; omega)).mono ?_
  rintro e w6 ho
  obtain ⟨A, c, rfl, hc, hy, hb⟩ := ho
  have HO := Lib.hid (show OwnB w5 (sagaF s) (.returned (.slice A (sagaF s).length c)) w6 from ⟨A, c, rfl, hc, hy, hb⟩)
  clear hc hy hb
  go_wp2_with fail
  go_ret
  exact own_on (HB.out.1.trans HR6.out.bel) HO.out
set_option maxHeartbeats 4000000 in
set_option maxRecDepth 100000 in
theorem putDef_any (nm : ByteArray) (dl : Int) (A : Option Addr) (c : Nat) (ss : List Stp) (n : Nat) (w : World) (hn : n = ss.length) (hM : Mod nm ss) (hS : Df.Steps w w.heap.size A ss) : Calls Try.prog 9 #[.agg #[.string nm, .int .i64 dl, .slice A n c]] w (OwnB w (defF nm dl ss)) := by
  have HR0 := Lib.hid (wr_new w (.cells #[.string nm, .int .i64 dl, .slice A n c] 24))
  have HX0 := Lib.hid ((Box.new w 24 #[.string nm, .int .i64 dl, .slice A n c]).alloc (.cells #[.slice none 0 0] 71))
  have HB := Lib.hid (two_below2 w (.cells #[.string nm, .int .i64 dl, .slice A n c] 24) (.cells #[.slice none 0 0] 71))
  have HL := Lib.hid (defF_len nm dl ss)
  have hsl := hM.le
  have hnm := hM.1
  have HD := Lib.hid (wdef_any (w.heap.size + 1) w.heap.size nm dl A c ss n [] ((w.alloc (.cells #[.string nm, .int .i64 dl, .slice A n c] 24)).alloc (.cells #[.slice none 0 0] 71)) hn hM (hS.below HB.out.1) HR0.out (by simp))
  clear hn hM hS
  go_enter Try.func9, Try.ntmps9
  go_upto_region 2 with fail
  generalize (w.alloc (.cells #[.string nm, .int .i64 dl, .slice A n c] 24)).alloc (.cells #[.slice none 0 0] 71) = W0 at *
  have c0 : W0.cell? ⟨w.heap.size, 0, none⟩ = some (.string nm) := HX0.out.cell 0
  have c1 : W0.cell? ⟨w.heap.size, 1, none⟩ = some (.int .i64 dl) := HX0.out.cell 1
  have c2 : W0.cell? ⟨w.heap.size, 2, none⟩ = some (.slice A n c) := HX0.out.cell 2
  go_wp2_with fail
  refine HD.out.mono ?_
  rintro e w1 ⟨rfl, hR⟩
  have HR6 := Lib.hid (hR.as (N := defF nm dl ss) (by rw [List.nil_append]))
  clear hR c0 c1 c2
  go_wp2_with fail
  refine (wbytes_any (w.heap.size + 1) w.heap.size (defF nm dl ss) _ HR6.out.wr (by have := HL.out; omega)).mono ?_
  rintro e w6 ho
  obtain ⟨A2, c2, rfl, hc, hy, hb⟩ := ho
  have HO := Lib.hid (show OwnB w1 (defF nm dl ss) (.returned (.slice A2 (defF nm dl ss).length c2)) w6 from ⟨A2, c2, rfl, hc, hy, hb⟩)
  clear hc hy hb
  go_wp2_with fail
  go_ret
  exact own_on (HB.out.1.trans HR6.out.bel) HO.out
end Go.Proofs.Ytihkadbcjeohjaa.Co

namespace Go.Proofs.Ytihkadbcjeohjaa.Co
open Go.RowKit
open Go.Proofs.Ytihkadbcjeohjaa.El
open Go.Proofs.Ytihkadbcjeohjaa.Df
open Go.Proofs.Ytihkadbcjeohjaa.Bo (P Made ret_int ret_bool)
open Go.Proofs.Ytihkadbcjeohjaa.Sa (Sg Rp)

def sg0 : Sg := ⟨0, ⟨#[]⟩, 0, 0, 0, 0, false, 0, 0⟩
theorem sg0_form : sagaF sg0 = List.replicate 65 0 := by decide +kernel
theorem sg0_put (w : World) : Calls Try.prog 15 #[.agg #[.int .i64 0, .string ⟨#[]⟩, .int .i64 0, .int .i64 0, .int .i64 0, .int .i64 0, .bool false, .int .i64 0, .int .i64 0]] w (OwnB w (List.replicate 65 0)) := by
  rw [← sg0_form]
  exact putSaga_any sg0 w (by decide)
set_option maxHeartbeats 1000000 in
set_option maxRecDepth 100000 in
theorem awake_any (w : World) : Calls Try.prog 7 #[] w fun e w' => e = .returned (.bool true) ∧ Below w.heap.size w w' := by
  have HP := Lib.hid (sg0_put w)
  go_enter Try.func7, Try.ntmps7
  go_wp2_with fail
  refine HP.out.mono ?_
  rintro e w1 ⟨A, c, rfl, hc, hy, hb⟩
  have HY := Lib.hid hy
  have HB := Lib.hid hb
  rw [List.length_replicate]
  clear hy hb hc HP
  go_wp2_with fail
  go_loopw [2] (fun vi wr => ∃ k : Nat, vi = .int .i64 (k : Int) ∧ k ≤ 65 ∧ wr = w1) (fun vi _ => 65 - (intOf vi).toNat)
  case atStart => exact ⟨0, rfl, Nat.zero_le _, rfl⟩
  case round =>
    obtain ⟨k, rfl, hk, rfl⟩ := hrel
    by_cases hkn : k < 65
    · obtain ⟨b, o, rfl, _, hcl⟩ := HY.out.get (k := k) (by rw [List.length_replicate]; exact hkn)
      rw [List.getElem_replicate] at hcl
      have hcl' : wr.cell? ⟨b, o + k, none⟩ = some (.int .u8 0) := hcl
      clear hcl
      go_wp2
      go_roundw
      case rel => exact ⟨k + 1, by go_num, by omega, trivial⟩
      case measure => simp only [intOf]; omega
    · have hk2 : k = 65 := by omega
      subst hk2
      go_wp2
      go_ret
      exact ⟨rfl, HB.out⟩
end Go.Proofs.Ytihkadbcjeohjaa.Co

namespace Go.Proofs.Ytihkadbcjeohjaa.Co
open Go.RowKit Go.Sort
open Go.Proofs.Ytihkadbcjeohjaa.El
open Go.Proofs.Ytihkadbcjeohjaa.Df
open Go.Proofs.Ytihkadbcjeohjaa.Bo (P Made ret_int ret_bool)
open Go.Proofs.Ytihkadbcjeohjaa.Sa (Sg Rp)

/-- bytes as a text -/
def sb (L : List UInt8) : ByteArray := ⟨L.toArray⟩
theorem sb_size (L : List UInt8) : (sb L).size = L.length := by
  show L.toArray.size = _
  simp
theorem sb_app (L M : List UInt8) : sb L ++ sb M = sb (L ++ M) := by
  apply ByteArray.ext
  apply Array.toList_inj.1
  rw [ByteArray.data_append]
  simp [sb]
theorem sb_self (s : ByteArray) : sb s.data.toList = s := by
  cases s
  rfl
theorem rnum_s (n : Int) (w : World) : Calls Try.prog 29 #[.int .i64 n] w fun e w' => e = .returned (.string (sb (nF n))) ∧ Made w w' := xnum_any n w
theorem rtext_s (s : ByteArray) (w : World) (hs : s.size ≤ 1099511627776) : Calls Try.prog 28 #[.string s] w fun e w' => e = .returned (.string (sb (tF s))) ∧ Made w w' := by
  have HN := Lib.hid (rnum_s (s.size : Int) w)
  obtain ⟨b, hb⟩ : ∃ b, b = sb (nF (s.size : Int)) := ⟨_, rfl⟩
  have hz : b.size = 8 := by rw [hb, sb_size, nF_len]
  rw [← hb] at HN
  have HB : Hid (b ++ s = sb (tF s)) := Lib.hid (by
    rw [hb]
    conv => lhs; rw [← sb_self s]
    rw [sb_app, sb_self]
    unfold tF nF
    rw [clp_of (by omega)])
  have hg : ¬ 9223372036854775807 < b.size + s.size := by omega
  clear hb
  go_enter Try.func28, Try.ntmps28
  go_wp2_with fail
  refine HN.out.mono ?_
  rintro e w1 ⟨rfl, hm⟩
  go_wp2_with fail
  go_ret
  exact ⟨by rw [← HB.out]; rfl, hm⟩
theorem rflag_s (y : Bool) (w : World) : Calls Try.prog 49 #[.bool y] w fun e w' => e = .returned (.string (sb (fF y))) ∧ Made w w' := by
  cases y
  all_goals
    go_enter Try.func49, Try.ntmps49
    go_wp2
    go_ret
    exact ⟨rfl, Made.refl _⟩
theorem made_grow (w : World) (q : Nat) (os : Array Obj) : Made w (grow (w.drewN q) os) := ⟨q, os, rfl⟩
set_option maxHeartbeats 4000000 in
set_option maxRecDepth 100000 in
theorem rplan_s (p : P) (w : World) : Calls Try.prog 30 #[.agg #[.int .i64 p.r, .int .i64 p.b, .int .i64 p.f, .int .i64 p.c]] w fun e w' => e = .returned (.string (sb (planF p))) ∧ Made w w' := by
  obtain ⟨b0, hb0⟩ : ∃ b, b = sb (nF p.r) := ⟨_, rfl⟩
  have HN0 : Hid (∀ W, Calls Try.prog 29 #[.int .i64 p.r] W fun e w2 => e = .returned (.string b0) ∧ Made W w2) := Lib.hid fun W => by rw [hb0]; exact rnum_s p.r W
  have hz0 : b0.size = 8 := by rw [hb0, sb_size, nF_len]
  obtain ⟨b1, hb1⟩ : ∃ b, b = sb (nF p.b) := ⟨_, rfl⟩
  have HN1 : Hid (∀ W, Calls Try.prog 29 #[.int .i64 p.b] W fun e w2 => e = .returned (.string b1) ∧ Made W w2) := Lib.hid fun W => by rw [hb1]; exact rnum_s p.b W
  have hz1 : b1.size = 8 := by rw [hb1, sb_size, nF_len]
  obtain ⟨b2, hb2⟩ : ∃ b, b = sb (nF p.f) := ⟨_, rfl⟩
  have HN2 : Hid (∀ W, Calls Try.prog 29 #[.int .i64 p.f] W fun e w2 => e = .returned (.string b2) ∧ Made W w2) := Lib.hid fun W => by rw [hb2]; exact rnum_s p.f W
  have hz2 : b2.size = 8 := by rw [hb2, sb_size, nF_len]
  obtain ⟨b3, hb3⟩ : ∃ b, b = sb (nF p.c) := ⟨_, rfl⟩
  have HN3 : Hid (∀ W, Calls Try.prog 29 #[.int .i64 p.c] W fun e w2 => e = .returned (.string b3) ∧ Made W w2) := Lib.hid fun W => by rw [hb3]; exact rnum_s p.c W
  have hz3 : b3.size = 8 := by rw [hb3, sb_size, nF_len]
  have HB : Hid ((((b0 ++ b1) ++ b2) ++ b3) = sb (planF p)) := Lib.hid (by
    rw [hb0, hb1, hb2, hb3]
    simp only [sb_app]
    unfold planF
    simp only [List.append_assoc])
  have hg1 : ¬ 9223372036854775807 < b0.size + b1.size := by omega
  have hg2 : ¬ 9223372036854775807 < b0.size + b1.size + b2.size := by omega
  have hg3 : ¬ 9223372036854775807 < b0.size + b1.size + b2.size + b3.size := by omega
  clear hb0 hb1 hb2 hb3 hz0 hz1 hz2 hz3
  have mixed : Try.prog.follows .mixedOrders = true := by kernel_rfl
  have HX := Lib.hid (Box.new w 65 #[.int .i64 p.r, .int .i64 p.b, .int .i64 p.f, .int .i64 p.c])
  have HM := Lib.hid (Made.alloc w (.cells #[.int .i64 p.r, .int .i64 p.b, .int .i64 p.f, .int .i64 p.c] 65))
  go_enter Try.func30, Try.ntmps30
  go_upto_region 1 with fail
  generalize w.alloc (.cells #[.int .i64 p.r, .int .i64 p.b, .int .i64 p.f, .int .i64 p.c] 65) = W0 at *
  have c0 : ∀ n os, (grow (W0.drewN n) os).cell? ⟨w.heap.size, 0, none⟩ = some (.int .i64 p.r) := fun n os => cell_grown HX.out.lt (HX.out.cell 0) n os
  have c1 : ∀ n os, (grow (W0.drewN n) os).cell? ⟨w.heap.size, 1, none⟩ = some (.int .i64 p.b) := fun n os => cell_grown HX.out.lt (HX.out.cell 1) n os
  have c2 : ∀ n os, (grow (W0.drewN n) os).cell? ⟨w.heap.size, 2, none⟩ = some (.int .i64 p.f) := fun n os => cell_grown HX.out.lt (HX.out.cell 2) n os
  have c3 : ∀ n os, (grow (W0.drewN n) os).cell? ⟨w.heap.size, 3, none⟩ = some (.int .i64 p.c) := fun n os => cell_grown HX.out.lt (HX.out.cell 3) n os
  go_quiet_grown (first
    | (go_at_call 29; with_reducible exact Calls.grown_of (HN0.out _))
    | (go_at_call 29; with_reducible exact Calls.grown_of (HN1.out _))
    | (go_at_call 29; with_reducible exact Calls.grown_of (HN2.out _))
    | (go_at_call 29; with_reducible exact Calls.grown_of (HN3.out _)))
  go_wp2_with fail
  go_ret
  exact ⟨by rw [← HB.out]; rfl, HM.out.trans (made_grow _ _ _)⟩
set_option maxHeartbeats 4000000 in
set_option maxRecDepth 100000 in
theorem rsaga_s (s : Sg) (w : World) (hs : s.dn.size ≤ 1000000) : Calls Try.prog 18 #[.agg #[.int .i64 s.id, .string s.dn, .int .i64 s.st, .int .i64 s.ph, .int .i64 s.sp, .int .i64 s.tr, .bool s.out, .int .i64 s.at_, .int .i64 s.sk]] w fun e w' => e = .returned (.string (sb (sagaF s))) ∧ Made w w' := by
  obtain ⟨b0, hb0⟩ : ∃ b, b = sb (nF s.id) := ⟨_, rfl⟩
  have HN0 : Hid (∀ W, Calls Try.prog 29 #[.int .i64 s.id] W fun e w2 => e = .returned (.string b0) ∧ Made W w2) := Lib.hid fun W => by rw [hb0]; exact rnum_s s.id W
  have hz0 : b0.size = 8 := by rw [hb0, sb_size, nF_len]
  obtain ⟨b1, hb1⟩ : ∃ b, b = sb (tF s.dn) := ⟨_, rfl⟩
  have HN1 : Hid (∀ W, Calls Try.prog 28 #[.string s.dn] W fun e w2 => e = .returned (.string b1) ∧ Made W w2) := Lib.hid fun W => by rw [hb1]; exact rtext_s s.dn W (by omega)
  have hz1 : b1.size = 8 + (s.dn).size := by rw [hb1, sb_size, tF_len]
  obtain ⟨b2, hb2⟩ : ∃ b, b = sb (nF s.st) := ⟨_, rfl⟩
  have HN2 : Hid (∀ W, Calls Try.prog 29 #[.int .i64 s.st] W fun e w2 => e = .returned (.string b2) ∧ Made W w2) := Lib.hid fun W => by rw [hb2]; exact rnum_s s.st W
  have hz2 : b2.size = 8 := by rw [hb2, sb_size, nF_len]
  obtain ⟨b3, hb3⟩ : ∃ b, b = sb (nF s.ph) := ⟨_, rfl⟩
  have HN3 : Hid (∀ W, Calls Try.prog 29 #[.int .i64 s.ph] W fun e w2 => e = .returned (.string b3) ∧ Made W w2) := Lib.hid fun W => by rw [hb3]; exact rnum_s s.ph W
  have hz3 : b3.size = 8 := by rw [hb3, sb_size, nF_len]
  obtain ⟨b4, hb4⟩ : ∃ b, b = sb (nF s.sp) := ⟨_, rfl⟩
  have HN4 : Hid (∀ W, Calls Try.prog 29 #[.int .i64 s.sp] W fun e w2 => e = .returned (.string b4) ∧ Made W w2) := Lib.hid fun W => by rw [hb4]; exact rnum_s s.sp W
  have hz4 : b4.size = 8 := by rw [hb4, sb_size, nF_len]
  obtain ⟨b5, hb5⟩ : ∃ b, b = sb (nF s.tr) := ⟨_, rfl⟩
  have HN5 : Hid (∀ W, Calls Try.prog 29 #[.int .i64 s.tr] W fun e w2 => e = .returned (.string b5) ∧ Made W w2) := Lib.hid fun W => by rw [hb5]; exact rnum_s s.tr W
  have hz5 : b5.size = 8 := by rw [hb5, sb_size, nF_len]
  obtain ⟨b6, hb6⟩ : ∃ b, b = sb (fF s.out) := ⟨_, rfl⟩
  have HN6 : Hid (∀ W, Calls Try.prog 49 #[.bool s.out] W fun e w2 => e = .returned (.string b6) ∧ Made W w2) := Lib.hid fun W => by rw [hb6]; exact rflag_s s.out W
  have hz6 : b6.size = 1 := by rw [hb6, sb_size, fF_len]
  obtain ⟨b7, hb7⟩ : ∃ b, b = sb (nF s.at_) := ⟨_, rfl⟩
  have HN7 : Hid (∀ W, Calls Try.prog 29 #[.int .i64 s.at_] W fun e w2 => e = .returned (.string b7) ∧ Made W w2) := Lib.hid fun W => by rw [hb7]; exact rnum_s s.at_ W
  have hz7 : b7.size = 8 := by rw [hb7, sb_size, nF_len]
  obtain ⟨b8, hb8⟩ : ∃ b, b = sb (nF s.sk) := ⟨_, rfl⟩
  have HN8 : Hid (∀ W, Calls Try.prog 29 #[.int .i64 s.sk] W fun e w2 => e = .returned (.string b8) ∧ Made W w2) := Lib.hid fun W => by rw [hb8]; exact rnum_s s.sk W
  have hz8 : b8.size = 8 := by rw [hb8, sb_size, nF_len]
  have HB : Hid (((((((((b0 ++ b1) ++ b2) ++ b3) ++ b4) ++ b5) ++ b6) ++ b7) ++ b8) = sb (sagaF s)) := Lib.hid (by
    rw [hb0, hb1, hb2, hb3, hb4, hb5, hb6, hb7, hb8]
    simp only [sb_app]
    unfold sagaF
    simp only [List.append_assoc])
  have hg1 : ¬ 9223372036854775807 < b0.size + b1.size := by omega
  have hg2 : ¬ 9223372036854775807 < b0.size + b1.size + b2.size := by omega
  have hg3 : ¬ 9223372036854775807 < b0.size + b1.size + b2.size + b3.size := by omega
  have hg4 : ¬ 9223372036854775807 < b0.size + b1.size + b2.size + b3.size + b4.size := by omega
  have hg5 : ¬ 9223372036854775807 < b0.size + b1.size + b2.size + b3.size + b4.size + b5.size := by omega
  have hg6 : ¬ 9223372036854775807 < b0.size + b1.size + b2.size + b3.size + b4.size + b5.size + b6.size := by omega
  have hg7 : ¬ 9223372036854775807 < b0.size + b1.size + b2.size + b3.size + b4.size + b5.size + b6.size + b7.size := by omega
  have hg8 : ¬ 9223372036854775807 < b0.size + b1.size + b2.size + b3.size + b4.size + b5.size + b6.size + b7.size + b8.size := by omega
  clear hb0 hb1 hb2 hb3 hb4 hb5 hb6 hb7 hb8 hz0 hz1 hz2 hz3 hz4 hz5 hz6 hz7 hz8
  have mixed : Try.prog.follows .mixedOrders = true := by kernel_rfl
  have HX := Lib.hid (Box.new w 40 #[.int .i64 s.id, .string s.dn, .int .i64 s.st, .int .i64 s.ph, .int .i64 s.sp, .int .i64 s.tr, .bool s.out, .int .i64 s.at_, .int .i64 s.sk])
  have HM := Lib.hid (Made.alloc w (.cells #[.int .i64 s.id, .string s.dn, .int .i64 s.st, .int .i64 s.ph, .int .i64 s.sp, .int .i64 s.tr, .bool s.out, .int .i64 s.at_, .int .i64 s.sk] 40))
  go_enter Try.func18, Try.ntmps18
  go_upto_region 1 with fail
  generalize w.alloc (.cells #[.int .i64 s.id, .string s.dn, .int .i64 s.st, .int .i64 s.ph, .int .i64 s.sp, .int .i64 s.tr, .bool s.out, .int .i64 s.at_, .int .i64 s.sk] 40) = W0 at *
  have c0 : ∀ n os, (grow (W0.drewN n) os).cell? ⟨w.heap.size, 0, none⟩ = some (.int .i64 s.id) := fun n os => cell_grown HX.out.lt (HX.out.cell 0) n os
  have c1 : ∀ n os, (grow (W0.drewN n) os).cell? ⟨w.heap.size, 1, none⟩ = some (.string s.dn) := fun n os => cell_grown HX.out.lt (HX.out.cell 1) n os
  have c2 : ∀ n os, (grow (W0.drewN n) os).cell? ⟨w.heap.size, 2, none⟩ = some (.int .i64 s.st) := fun n os => cell_grown HX.out.lt (HX.out.cell 2) n os
  have c3 : ∀ n os, (grow (W0.drewN n) os).cell? ⟨w.heap.size, 3, none⟩ = some (.int .i64 s.ph) := fun n os => cell_grown HX.out.lt (HX.out.cell 3) n os
  have c4 : ∀ n os, (grow (W0.drewN n) os).cell? ⟨w.heap.size, 4, none⟩ = some (.int .i64 s.sp) := fun n os => cell_grown HX.out.lt (HX.out.cell 4) n os
  have c5 : ∀ n os, (grow (W0.drewN n) os).cell? ⟨w.heap.size, 5, none⟩ = some (.int .i64 s.tr) := fun n os => cell_grown HX.out.lt (HX.out.cell 5) n os
  have c6 : ∀ n os, (grow (W0.drewN n) os).cell? ⟨w.heap.size, 6, none⟩ = some (.bool s.out) := fun n os => cell_grown HX.out.lt (HX.out.cell 6) n os
  have c7 : ∀ n os, (grow (W0.drewN n) os).cell? ⟨w.heap.size, 7, none⟩ = some (.int .i64 s.at_) := fun n os => cell_grown HX.out.lt (HX.out.cell 7) n os
  have c8 : ∀ n os, (grow (W0.drewN n) os).cell? ⟨w.heap.size, 8, none⟩ = some (.int .i64 s.sk) := fun n os => cell_grown HX.out.lt (HX.out.cell 8) n os
  go_quiet_grown (first
    | (go_at_call 29; with_reducible exact Calls.grown_of (HN0.out _))
    | (go_at_call 28; with_reducible exact Calls.grown_of (HN1.out _))
    | (go_at_call 29; with_reducible exact Calls.grown_of (HN2.out _))
    | (go_at_call 29; with_reducible exact Calls.grown_of (HN3.out _))
    | (go_at_call 29; with_reducible exact Calls.grown_of (HN4.out _))
    | (go_at_call 29; with_reducible exact Calls.grown_of (HN5.out _))
    | (go_at_call 49; with_reducible exact Calls.grown_of (HN6.out _))
    | (go_at_call 29; with_reducible exact Calls.grown_of (HN7.out _))
    | (go_at_call 29; with_reducible exact Calls.grown_of (HN8.out _)))
  go_wp2_with fail
  go_ret
  exact ⟨by rw [← HB.out]; rfl, HM.out.trans (made_grow _ _ _)⟩
end Go.Proofs.Ytihkadbcjeohjaa.Co

namespace Go.Proofs.Ytihkadbcjeohjaa.Co
open Go.RowKit Go.Sort
open Go.Proofs.Ytihkadbcjeohjaa.El
open Go.Proofs.Ytihkadbcjeohjaa.Df
open Go.Proofs.Ytihkadbcjeohjaa.Bo (P Made ret_int ret_bool)
open Go.Proofs.Ytihkadbcjeohjaa.Sa (Sg Rp)

set_option maxHeartbeats 8000000 in
set_option maxRecDepth 100000 in
theorem rdef_s (nm : ByteArray) (dl : Int) (A : Option Addr) (c : Nat) (ss : List Stp) (n : Nat) (w : World) (hn : n = ss.length) (hM : Mod nm ss) (hS : Df.Steps w w.heap.size A ss) :
    Calls Try.prog 10 #[.agg #[.string nm, .int .i64 dl, .slice A n c]] w fun e w' => e = .returned (.string (sb (defF nm dl ss))) ∧ Made w w' := by
  have hn4 : n ≤ 1000 := by have := hM.2.1; omega
  have hnm : nm.size ≤ 1000000 := hM.1
  have hsl := hM.le
  obtain ⟨b0, hb0⟩ : ∃ b, b = sb (tF nm) := ⟨_, rfl⟩
  have HN0 : Hid (∀ W, Calls Try.prog 28 #[.string nm] W fun e w2 => e = .returned (.string b0) ∧ Made W w2) := Lib.hid fun W => by rw [hb0]; exact rtext_s nm W (by omega)
  have hz0 : b0.size = 8 + (nm).size := by rw [hb0, sb_size, tF_len]
  obtain ⟨b1, hb1⟩ : ∃ b, b = sb (nF dl) := ⟨_, rfl⟩
  have HN1 : Hid (∀ W, Calls Try.prog 29 #[.int .i64 dl] W fun e w2 => e = .returned (.string b1) ∧ Made W w2) := Lib.hid fun W => by rw [hb1]; exact rnum_s dl W
  have hz1 : b1.size = 8 := by rw [hb1, sb_size, nF_len]
  obtain ⟨b2, hb2⟩ : ∃ b, b = sb (nF (n : Int)) := ⟨_, rfl⟩
  have HN2 : Hid (∀ W, Calls Try.prog 29 #[.int .i64 (n : Int)] W fun e w2 => e = .returned (.string b2) ∧ Made W w2) := Lib.hid fun W => by rw [hb2]; exact rnum_s (n : Int) W
  have hz2 : b2.size = 8 := by rw [hb2, sb_size, nF_len]
  have HB : Hid ((b0 ++ b1) ++ b2 = sb (tF nm ++ (nF dl ++ nF (n : Int)))) := Lib.hid (by
    rw [hb0, hb1, hb2]
    simp only [sb_app, List.append_assoc])
  have hg1 : ¬ 9223372036854775807 < b0.size + b1.size := by omega
  have hg2 : ¬ 9223372036854775807 < b0.size + b1.size + b2.size := by omega
  clear hb0 hb1 hb2 hz0 hz1 hz2
  have mixed : Try.prog.follows .mixedOrders = true := by kernel_rfl
  have HX := Lib.hid (Box.new w 24 #[.string nm, .int .i64 dl, .slice A n c])
  have HM := Lib.hid (Made.alloc w (.cells #[.string nm, .int .i64 dl, .slice A n c] 24))
  have HS := Lib.hid hS
  have HN := Lib.hid hn
  have HMd := Lib.hid hM
  clear hS hn hM
  go_enter Try.func10, Try.ntmps10
  go_upto_region 1 with fail
  generalize w.alloc (.cells #[.string nm, .int .i64 dl, .slice A n c] 24) = W0 at *
  have c0 : ∀ n os, (grow (W0.drewN n) os).cell? ⟨w.heap.size, 0, none⟩ = some (.string nm) := fun n os => cell_grown HX.out.lt (HX.out.cell 0) n os
  have c1 : ∀ n os, (grow (W0.drewN n) os).cell? ⟨w.heap.size, 1, none⟩ = some (.int .i64 dl) := fun n os => cell_grown HX.out.lt (HX.out.cell 1) n os
  have c2 : ∀ m os, (grow (W0.drewN m) os).cell? ⟨w.heap.size, 2, none⟩ = some (.slice A n c) := fun m os => cell_grown HX.out.lt (HX.out.cell 2) m os
  go_quiet_grown (first
    | (go_at_call 28; with_reducible exact Calls.grown_of (HN0.out _))
    | (go_at_call 29; with_reducible exact Calls.grown_of (HN1.out _))
    | (go_at_call 29; with_reducible exact Calls.grown_of (HN2.out _)))
  have HM1 := Lib.hid (HM.out.trans (made_grow W0 nq osq))
  have HX1 := Lib.hid (Bo.Box.made HX.out (made_grow W0 nq osq))
  generalize grow (W0.drewN nq) osq = W1 at *
  clear c0 c1 c2 HM HX
  obtain ⟨T, hT⟩ : ∃ T, T = (b0 ++ b1) ++ b2 := ⟨_, rfl⟩
  have hTs : T.size ≤ 10000000 := by rw [hT, HB.out, sb_size]; simp only [List.length_append, tF_len, nF_len]; omega
  rw [← hT] at HB ⊢
  have HT0 : Hid (T = sb (tF nm ++ (nF dl ++ nF (n : Int)) ++ stepsF (ss.take 0))) := Lib.hid (by rw [HB.out, List.take_zero, show stepsF [] = [] from rfl, List.append_nil])
  clear hT hg1 hg2 HN0 HN1 HN2
  go_wp2_with fail
  go_loopw [3, 4] (fun vs vi wr => ∃ (k : Nat) (Sx : ByteArray), vi = .int .i64 (k : Int) ∧ vs = .string Sx ∧ k ≤ n ∧ Hid (Sx = sb (tF nm ++ (nF dl ++ nF (n : Int)) ++ stepsF (ss.take k))) ∧ Hid (Made w wr) ∧ Hid (Box wr w.heap.size 24 #[.string nm, .int .i64 dl, .slice A n c])) (fun _ vi _ => n - (intOf vi).toNat)
  case atStart => exact ⟨0, T, rfl, rfl, Nat.zero_le _, HT0, HM1, HX1⟩
  case round =>
    obtain ⟨k, Sx, rfl, rfl, hk, HSx, HMr, HXr⟩ := hrel
    clear HT0 HM1 HX1
    have e2 : wr.cell? ⟨w.heap.size, 2, none⟩ = some (.slice A n c) := HXr.out.cell 2
    by_cases hkn : k < n
    · obtain ⟨x, hx⟩ : ∃ x, ss[k]? = some x := ⟨_, List.getElem?_eq_getElem (by have := HN.out; omega)⟩
      obtain ⟨b, o, rfl, hbl⟩ := HS.out.at_ hx
      have HSr := Lib.hid (HS.out.on HMr.out.below)
      have c0 : (wr).cell? ⟨b, o + k * 12, none⟩ = some (.string x.nm) := HSr.out.get hx 0 rfl
      have c1 : (wr).cell? ⟨b, o + k * 12 + 1, none⟩ = some (.string x.pt) := HSr.out.get hx 1 rfl
      have c2 : (wr).cell? ⟨b, o + k * 12 + 2, none⟩ = some (.int .i64 x.tm) := HSr.out.get hx 2 rfl
      have c3 : (wr).cell? ⟨b, o + k * 12 + 3, none⟩ = some (.int .i64 x.t.r) := HSr.out.get hx 3 rfl
      have c4 : (wr).cell? ⟨b, o + k * 12 + 4, none⟩ = some (.int .i64 x.t.b) := HSr.out.get hx 4 rfl
      have c5 : (wr).cell? ⟨b, o + k * 12 + 5, none⟩ = some (.int .i64 x.t.f) := HSr.out.get hx 5 rfl
      have c6 : (wr).cell? ⟨b, o + k * 12 + 6, none⟩ = some (.int .i64 x.t.c) := HSr.out.get hx 6 rfl
      have c7 : (wr).cell? ⟨b, o + k * 12 + 7, none⟩ = some (.int .i64 x.u.r) := HSr.out.get hx 7 rfl
      have c8 : (wr).cell? ⟨b, o + k * 12 + 8, none⟩ = some (.int .i64 x.u.b) := HSr.out.get hx 8 rfl
      have c9 : (wr).cell? ⟨b, o + k * 12 + 9, none⟩ = some (.int .i64 x.u.f) := HSr.out.get hx 9 rfl
      have c10 : (wr).cell? ⟨b, o + k * 12 + 10, none⟩ = some (.int .i64 x.u.c) := HSr.out.get hx 10 rfl
      have c11 : (wr).cell? ⟨b, o + k * 12 + 11, none⟩ = some (.int .i64 x.pr) := HSr.out.get hx 11 rfl
      have HTk := Lib.hid (stepsF_take ss hx)
      obtain ⟨hx1, hx2⟩ := HMd.out.2.2 x (List.mem_of_getElem? hx)
      have hpl := stepsF_part (ss := ss) k
      have hSs : Sx.size ≤ 3000000000 := by rw [HSx.out, sb_size]; simp only [List.length_append, tF_len, nF_len]; omega
      clear hx hpl
      obtain ⟨xb0, hxb0⟩ : ∃ b, b = sb (tF x.nm) := ⟨_, rfl⟩
      have xHN0 : Hid (∀ W, Calls Try.prog 28 #[.string x.nm] W fun e w2 => e = .returned (.string xb0) ∧ Made W w2) := Lib.hid fun W => by rw [hxb0]; exact rtext_s x.nm W (by omega)
      have xhz0 : xb0.size = 8 + (x.nm).size := by rw [hxb0, sb_size, tF_len]
      obtain ⟨xb1, hxb1⟩ : ∃ b, b = sb (tF x.pt) := ⟨_, rfl⟩
      have xHN1 : Hid (∀ W, Calls Try.prog 28 #[.string x.pt] W fun e w2 => e = .returned (.string xb1) ∧ Made W w2) := Lib.hid fun W => by rw [hxb1]; exact rtext_s x.pt W (by omega)
      have xhz1 : xb1.size = 8 + (x.pt).size := by rw [hxb1, sb_size, tF_len]
      obtain ⟨xb2, hxb2⟩ : ∃ b, b = sb (nF x.tm) := ⟨_, rfl⟩
      have xHN2 : Hid (∀ W, Calls Try.prog 29 #[.int .i64 x.tm] W fun e w2 => e = .returned (.string xb2) ∧ Made W w2) := Lib.hid fun W => by rw [hxb2]; exact rnum_s x.tm W
      have xhz2 : xb2.size = 8 := by rw [hxb2, sb_size, nF_len]
      obtain ⟨xb3, hxb3⟩ : ∃ b, b = sb (planF x.t) := ⟨_, rfl⟩
      have xHN3 : Hid (∀ W, Calls Try.prog 30 #[.agg #[.int .i64 x.t.r, .int .i64 x.t.b, .int .i64 x.t.f, .int .i64 x.t.c]] W fun e w2 => e = .returned (.string xb3) ∧ Made W w2) := Lib.hid fun W => by rw [hxb3]; exact rplan_s x.t W
      have xhz3 : xb3.size = 32 := by rw [hxb3, sb_size, planF_len]
      obtain ⟨xb4, hxb4⟩ : ∃ b, b = sb (planF x.u) := ⟨_, rfl⟩
      have xHN4 : Hid (∀ W, Calls Try.prog 30 #[.agg #[.int .i64 x.u.r, .int .i64 x.u.b, .int .i64 x.u.f, .int .i64 x.u.c]] W fun e w2 => e = .returned (.string xb4) ∧ Made W w2) := Lib.hid fun W => by rw [hxb4]; exact rplan_s x.u W
      have xhz4 : xb4.size = 32 := by rw [hxb4, sb_size, planF_len]
      obtain ⟨xb5, hxb5⟩ : ∃ b, b = sb (nF x.pr) := ⟨_, rfl⟩
      have xHN5 : Hid (∀ W, Calls Try.prog 29 #[.int .i64 x.pr] W fun e w2 => e = .returned (.string xb5) ∧ Made W w2) := Lib.hid fun W => by rw [hxb5]; exact rnum_s x.pr W
      have xhz5 : xb5.size = 8 := by rw [hxb5, sb_size, nF_len]
      have HBx : Hid ((((((Sx ++ xb0) ++ xb1) ++ xb2) ++ xb3) ++ xb4) ++ xb5 = sb (tF nm ++ (nF dl ++ nF (n : Int)) ++ stepsF (ss.take (k + 1)))) := Lib.hid (by
        rw [hxb0, hxb1, hxb2, hxb3, hxb4, hxb5, HSx.out, HTk.out]
        unfold stepF
        simp only [sb_app, List.append_assoc])
      have xg0 : ¬ 9223372036854775807 < Sx.size + xb0.size := by omega
      have xg1 : ¬ 9223372036854775807 < Sx.size + xb0.size + xb1.size := by omega
      have xg2 : ¬ 9223372036854775807 < Sx.size + xb0.size + xb1.size + xb2.size := by omega
      have xg3 : ¬ 9223372036854775807 < Sx.size + xb0.size + xb1.size + xb2.size + xb3.size := by omega
      have xg4 : ¬ 9223372036854775807 < Sx.size + xb0.size + xb1.size + xb2.size + xb3.size + xb4.size := by omega
      have xg5 : ¬ 9223372036854775807 < Sx.size + xb0.size + xb1.size + xb2.size + xb3.size + xb4.size + xb5.size := by omega
      clear hxb0 hxb1 hxb2 hxb3 hxb4 hxb5 xhz0 xhz1 xhz2 xhz3 xhz4 xhz5 hx1 hx2
      go_upto_region 6 with fail
      have HXs := Lib.hid (Box.new wr 67 #[.string x.nm, .string x.pt, .int .i64 x.tm, .int .i64 x.t.r, .int .i64 x.t.b, .int .i64 x.t.f, .int .i64 x.t.c, .int .i64 x.u.r, .int .i64 x.u.b, .int .i64 x.u.f, .int .i64 x.u.c, .int .i64 x.pr])
      have HMs := Lib.hid (Made.alloc wr (.cells #[.string x.nm, .string x.pt, .int .i64 x.tm, .int .i64 x.t.r, .int .i64 x.t.b, .int .i64 x.t.f, .int .i64 x.t.c, .int .i64 x.u.r, .int .i64 x.u.b, .int .i64 x.u.f, .int .i64 x.u.c, .int .i64 x.pr] 67))
      clear c0 c1 c2 c3 c4 c5 c6 c7 c8 c9 c10 c11 e2
      generalize wr.alloc (.cells #[.string x.nm, .string x.pt, .int .i64 x.tm, .int .i64 x.t.r, .int .i64 x.t.b, .int .i64 x.t.f, .int .i64 x.t.c, .int .i64 x.u.r, .int .i64 x.u.b, .int .i64 x.u.f, .int .i64 x.u.c, .int .i64 x.pr] 67) = W2 at *
      have d0 : ∀ n os, (grow (W2.drewN n) os).cell? ⟨wr.heap.size, 0, none⟩ = some (.string x.nm) := fun n os => cell_grown HXs.out.lt (HXs.out.cell 0) n os
      have d1 : ∀ n os, (grow (W2.drewN n) os).cell? ⟨wr.heap.size, 1, none⟩ = some (.string x.pt) := fun n os => cell_grown HXs.out.lt (HXs.out.cell 1) n os
      have d2 : ∀ n os, (grow (W2.drewN n) os).cell? ⟨wr.heap.size, 2, none⟩ = some (.int .i64 x.tm) := fun n os => cell_grown HXs.out.lt (HXs.out.cell 2) n os
      have d3 : ∀ n os, (grow (W2.drewN n) os).cell? ⟨wr.heap.size, 3, none⟩ = some (.int .i64 x.t.r) := fun n os => cell_grown HXs.out.lt (HXs.out.cell 3) n os
      have d4 : ∀ n os, (grow (W2.drewN n) os).cell? ⟨wr.heap.size, 4, none⟩ = some (.int .i64 x.t.b) := fun n os => cell_grown HXs.out.lt (HXs.out.cell 4) n os
      have d5 : ∀ n os, (grow (W2.drewN n) os).cell? ⟨wr.heap.size, 5, none⟩ = some (.int .i64 x.t.f) := fun n os => cell_grown HXs.out.lt (HXs.out.cell 5) n os
      have d6 : ∀ n os, (grow (W2.drewN n) os).cell? ⟨wr.heap.size, 6, none⟩ = some (.int .i64 x.t.c) := fun n os => cell_grown HXs.out.lt (HXs.out.cell 6) n os
      have d7 : ∀ n os, (grow (W2.drewN n) os).cell? ⟨wr.heap.size, 7, none⟩ = some (.int .i64 x.u.r) := fun n os => cell_grown HXs.out.lt (HXs.out.cell 7) n os
      have d8 : ∀ n os, (grow (W2.drewN n) os).cell? ⟨wr.heap.size, 8, none⟩ = some (.int .i64 x.u.b) := fun n os => cell_grown HXs.out.lt (HXs.out.cell 8) n os
      have d9 : ∀ n os, (grow (W2.drewN n) os).cell? ⟨wr.heap.size, 9, none⟩ = some (.int .i64 x.u.f) := fun n os => cell_grown HXs.out.lt (HXs.out.cell 9) n os
      have d10 : ∀ n os, (grow (W2.drewN n) os).cell? ⟨wr.heap.size, 10, none⟩ = some (.int .i64 x.u.c) := fun n os => cell_grown HXs.out.lt (HXs.out.cell 10) n os
      have d11 : ∀ n os, (grow (W2.drewN n) os).cell? ⟨wr.heap.size, 11, none⟩ = some (.int .i64 x.pr) := fun n os => cell_grown HXs.out.lt (HXs.out.cell 11) n os
      go_quiet_grown (first
        | (go_at_call 28; with_reducible exact Calls.grown_of (xHN0.out _))
        | (go_at_call 28; with_reducible exact Calls.grown_of (xHN1.out _))
        | (go_at_call 29; with_reducible exact Calls.grown_of (xHN2.out _))
        | (go_at_call 30; with_reducible exact Calls.grown_of (xHN3.out _))
        | (go_at_call 30; with_reducible exact Calls.grown_of (xHN4.out _))
        | (go_at_call 29; with_reducible exact Calls.grown_of (xHN5.out _)))
      have HM3 := Lib.hid ((HMr.out.trans HMs.out).trans (made_grow W2 nq osq))
      have HX3 := Lib.hid (Bo.Box.made (Bo.Box.made HXr.out HMs.out) (made_grow W2 nq osq))
      generalize grow (W2.drewN nq) osq = W3 at *
      clear d0 d1 d2 d3 d4 d5 d6 d7 d8 d9 d10 d11
      go_wp2_with fail
      go_roundw
      case rel => exact ⟨k + 1, _, by go_num, rfl, by omega, HBx, HM3, HX3⟩
      case measure => simp only [intOf]; omega
    · have hk2 : k = n := by omega
      go_wp2
      go_ret
      refine ⟨?_, HMr.out⟩
      have e : Sx = sb (defF nm dl ss) := by
        rw [HSx.out, hk2, HN.out, List.take_length]
        unfold defF
        simp only [List.append_assoc]
      rw [← e]
      rfl
end Go.Proofs.Ytihkadbcjeohjaa.Co

namespace Go.Proofs.Ytihkadbcjeohjaa.Co
open Go.RowKit
open Go.Proofs.Ytihkadbcjeohjaa.El
open Go.Proofs.Ytihkadbcjeohjaa.Df
open Go.Proofs.Ytihkadbcjeohjaa.Bo (P Made ret_int ret_bool)
open Go.Proofs.Ytihkadbcjeohjaa.Sa (Sg Rp)

/-- a definition -/
structure Dv where
  nm : ByteArray
  dl : Int
  ss : List Stp
def dv0 : Dv := ⟨tx0, 0, []⟩
/-- what is taken of bytes: a definition, a place, an error -/
def defA (l : List UInt8) : Dv × Nat × Nat := if (defE l).e ≠ 0 then (dv0, (defE l).o, (defE l).e) else if rightB (defNm l) (defDl l) (defL l) = false then (dv0, 0, 11) else (⟨defNm l, defDl l, defL l⟩, 0, 0)
/-- a definition that was taken, with its place and its error -/
def DfTo (w : World) (r : Dv × Nat × Nat) (e : Ending) (w' : World) : Prop :=
  ∃ A n c, e = .returned (.tuple #[.agg #[.string r.1.nm, .int .i64 r.1.dl, .slice A n c], .int .i64 (r.2.1 : Int), .int .i64 (r.2.2 : Int)]) ∧ n = r.1.ss.length ∧ n ≤ c ∧ Df.Steps w' w'.heap.size A r.1.ss ∧ Below w.heap.size w w'
theorem dfTo_of {w w' : World} {l : List UInt8} {T : Ps} {dn : ByteArray} {dl : Int} {ss : List Stp} {A : Option Addr} {n c : Nat} (hT : defE l = T) (h1 : defNm l = dn) (h2 : defDl l = dl) (h3 : defL l = ss) (hn : n = ss.length) (hc : n ≤ c) (hS : Df.Steps w' w'.heap.size A ss) (hb : Below w.heap.size w w') {e : Ending}
    (he : e = .returned (takenV T (rightB dn dl ss) (.agg #[.string ⟨#[]⟩, .int .i64 0, .slice none 0 0]) (.agg #[.string dn, .int .i64 dl, .slice A n c]))) : DfTo w (defA l) e w' := by
  subst hT h1 h2 h3
  unfold defA
  by_cases hE : (defE l).e = 0
  · rw [if_neg (show ¬ (defE l).e ≠ 0 from fun h => h hE)]
    cases hg : rightB (defNm l) (defDl l) (defL l) with
    | false =>
      rw [if_pos rfl]
      rw [hg, takenV_no hE] at he
      exact ⟨none, 0, 0, he, rfl, Nat.le_refl _, Els.nil _ _ _ _ _, hb⟩
    | true =>
      rw [if_neg (by decide)]
      rw [hg, takenV_yes hE] at he
      exact ⟨A, n, c, he, hn, hc, hS, hb⟩
  · rw [if_pos hE]
    rw [takenV_err hE] at he
    exact ⟨none, 0, 0, he, rfl, Nat.le_refl _, Els.nil _ _ _ _ _, hb⟩
/-- what was taken is short -/
theorem mod_taken (l : List UInt8) : Mod (defNm l) (defL l) := by
  refine ⟨by have := (txtQ_size (l := l) zeroP).1; unfold defNm; omega, ?_, fun x hx => ?_⟩
  · have h : (defL l).length ≤ 32 := by unfold defL defSs; rw [stepsQ_len]; exact cntQ_le _
    omega
  · have := steps_fit _ _ x hx
    omega
/-- where the end stands: what was taken so far, and the row of its steps -/
structure Td (w u : World) (q g x : Nat) (l : List UInt8) (s : Ps) (dn : ByteArray) (dl : Int) (ss : List Stp) (A : Option Addr) (n c : Nat) : Prop where
  ts : Ts w u q g x l s 24 #[.string dn, .int .i64 dl, .slice A n c]
  own : u.ownsRow w.heap.size 67 12 (.slice A n c) n (cellsS ss)
section
variable {w u u2 : World} {q g x : Nat} {l : List UInt8} {s t : Ps} {dn : ByteArray} {dl : Int} {ss : List Stp} {A : Option Addr} {n c : Nat}
theorem Td.call (h : Td w u q g x l s dn dl ss A n c) (k : RdAt u u2 g l t) : Td w u2 q g x l t dn dl ss A n c := ⟨h.ts.call k, h.own.kept k.gr (.inr (rd_apart h.ts.rd h.own))⟩
theorem Td.below (h : Td w u q g x l s dn dl ss A n c) (k : Below u.heap.size u u2) : Td w u2 q g x l s dn dl ss A n c := h.call (h.ts.rd.below k)
theorem Td.drew (h : Td w u q g x l s dn dl ss A n c) : Td w u.drew q g x l s dn dl ss A n c := h.call h.ts.rd.drew
theorem Td.len (h : Td w u q g x l s dn dl ss A n c) : n = ss.length := by
  have := h.own.1
  rw [cellsS_len] at this
  omega
theorem Td.cap (h : Td w u q g x l s dn dl ss A n c) : n ≤ c := by
  rcases h.own.2 with ⟨h1, h0⟩ | ⟨g, cap, cur, h1, _, _, hc, _⟩
  · injection h1 with _ h2 h3; omega
  · injection h1 with _ h2 h3; omega
theorem dfc {u : World} {x : Nat} (h : Box u x 24 #[.string dn, .int .i64 dl, .slice A n c]) : u.cell? ⟨x, 0, none⟩ = some (.string dn) ∧ u.cell? ⟨x, 1, none⟩ = some (.int .i64 dl) ∧ u.cell? ⟨x, 2, none⟩ = some (.slice A n c) := ⟨h.cell 0, h.cell 1, h.cell 2⟩
end
theorem noU_df (dn : ByteArray) (dl : Int) (A : Option Addr) (n c : Nat) : noU #[.string dn, .int .i64 dl, .slice A n c] = true := by simp [noU]
/-- an answer of taken: a struct of three cells, a place, an error -/
theorem taken_form3 (T : Ps) (may : Bool) (dn : ByteArray) (dl : Int) (A : Option Addr) (n c : Nat) : ∃ (cs : Array Value) (a1 a2 : Int), takenV T may (.agg #[.string ⟨#[]⟩, .int .i64 0, .slice none 0 0]) (.agg #[.string dn, .int .i64 dl, .slice A n c]) = .tuple #[.agg cs, .int .i64 a1, .int .i64 a2] ∧ cs.size = 3 ∧ cs.all (·.oneCell') = true := by
  by_cases hE : T.e = 0
  · cases may with
    | false => rw [takenV_no hE]; exact ⟨_, _, _, rfl, rfl, by simp [Value.oneCell']⟩
    | true => rw [takenV_yes hE]; exact ⟨_, _, _, rfl, rfl, by simp [Value.oneCell']⟩
  · rw [takenV_err hE]; exact ⟨_, _, _, rfl, rfl, by simp [Value.oneCell']⟩
set_option maxHeartbeats 8000000 in
set_option maxRecDepth 100000 in
theorem takeDef_any (A : Option Addr) (l : List UInt8) (c : Nat) (w : World) (hb : Byt w w.heap.size A l) (hl : l.length ≤ 1099511627776) :
    Calls Try.prog 11 #[.slice A l.length c] w (DfTo w (defA l)) := by
  have HN := Lib.hid (new_any A l c (w.alloc (.cells #[.string ⟨#[]⟩, .int .i64 0, .slice none 0 0] 24)) ((hb.below ((Below.refl _ w).alloc (Nat.le_refl _) _)).more (by simp)) hl)
  have HX := Lib.hid (Box.new w 24 #[.string ⟨#[]⟩, .int .i64 0, .slice none 0 0])
  have HB := Lib.hid ((Below.refl w.heap.size w).alloc (Nat.le_refl _) (.cells #[.string ⟨#[]⟩, .int .i64 0, .slice none 0 0] 24))
  have hz0 : (w.alloc (.cells #[.string ⟨#[]⟩, .int .i64 0, .slice none 0 0] 24)).heap.size = w.heap.size + 1 := by simp
  obtain ⟨dn, hdn⟩ : ∃ d, d = defNm l := ⟨_, rfl⟩
  obtain ⟨dl, hdl⟩ : ∃ d, d = defDl l := ⟨_, rfl⟩
  obtain ⟨ss, hss⟩ : ∃ d, d = defL l := ⟨_, rfl⟩
  obtain ⟨s4, hs4⟩ : ∃ d, d = defS l zeroP := ⟨_, rfl⟩
  obtain ⟨T, hT⟩ : ∃ T, T = defE l := ⟨_, rfl⟩
  have HTe : Hid (endS l s4 = T) := Lib.hid (by rw [hs4, hT]; rfl)
  have HF : Hid (∀ (A : Option Addr) (n c : Nat) (e : Ending) (w' : World), n = ss.length → n ≤ c → Df.Steps w' w'.heap.size A ss → Below w.heap.size w w' → e = .returned (takenV T (rightB dn dl ss) (.agg #[.string ⟨#[]⟩, .int .i64 0, .slice none 0 0]) (.agg #[.string dn, .int .i64 dl, .slice A n c])) → DfTo w (defA l) e w') := Lib.hid fun A n c e w' h1 h2 h3 h4 h5 => dfTo_of hT.symm hdn.symm hdl.symm hss.symm h1 h2 h3 h4 h5
  have HMo : Hid (Mod dn ss) := Lib.hid (by rw [hdn, hss]; exact mod_taken l)
  have HDf : Hid (∀ g u, RdAt u u g l zeroP → Calls Try.prog 32 #[.agg #[.pointer (some ⟨g, 0, none⟩)]] u fun e w2 => ∃ A n c, e = .returned (.agg #[.string dn, .int .i64 dl, .slice A n c]) ∧ RdAt u w2 g l s4 ∧ w2.ownsRow u.heap.size 67 12 (.slice A n c) n (cellsS ss)) := Lib.hid fun g u h => by
    refine (def_s h).mono ?_
    rintro e w2 ⟨A, c, rfl, h1, h2⟩
    rw [hdn, hdl, hs4, hss]
    exact ⟨A, _, c, rfl, h1, h2⟩
  clear hb hdn hdl hss hs4 hT
  go_enter Try.func11, Try.ntmps11
  go_wp2_with fail
  generalize w.alloc (.cells #[.string ⟨#[]⟩, .int .i64 0, .slice none 0 0] 24) = W0 at *
  refine HN.out.mono ?_
  rintro e w1 ⟨g, rfl, hg, hR, hB⟩
  have HT0 : Hid (Ts w (w1.alloc (.cells #[.pointer (some ⟨g, 0, none⟩)] 80)) w1.heap.size g w.heap.size l zeroP 24 #[.string ⟨#[]⟩, .int .i64 0, .slice none 0 0]) := Lib.hid (by
    have hgl : g < w1.heap.size := by obtain ⟨A', c', _, hb', _⟩ := hR.box; exact hb'.lt
    have hr : RdAt w1 w1 g l zeroP := RdAt.refl hR hgl
    have hr2 := hr.alloc (.cells #[.pointer (some ⟨g, 0, none⟩)] 80)
    have hbw := HB.out.trans (hB.mono HB.out.size)
    exact ⟨RdAt.refl hr2.rd (by simp; omega), Box.new _ _ _, (HX.out.below hB HX.out.lt).alloc _, hbw.alloc hbw.size _, by omega, Nat.le_refl _, hbw.size, by omega, by omega, by have := hB.size; omega⟩)
  clear hg hR hB HN HX HB
  have c0 := HT0.out.cell
  go_wp2_with fail
  clear c0
  refine (HDf.out g _ HT0.out.rd).mono ?_
  rintro e ud ⟨A, n, c, rfl, hR, ho⟩
  have HTd := Lib.hid (HT0.out.call hR)
  have hown := own_lower ho HT0.out.bel.size
  have HOd := Lib.hid (hown.kept (setRow_grown ud w.heap.size #[.string dn, .int .i64 dl, .slice A n c]) (.inr (own_far hown HTd.out.xb (by decide))))
  have HTq := Lib.hid (HTd.out.row (by simp [noU]) #[.string dn, .int .i64 dl, .slice A n c])
  clear hR ho hown
  have HT : Hid (Td w (ud.setRow w.heap.size #[.string dn, .int .i64 dl, .slice A n c]) w1.heap.size g w.heap.size l s4 dn dl ss A n c) := Lib.hid ⟨HTq.out, HOd.out⟩
  have c0 := HT.out.ts.cell
  go_wp2_with (refine wpList_store_row rfl 24 (.tmp 2) (.tmp 10) rfl (w.heap.size) 24 _ #[.string dn, .int .i64 dl, .slice A n c] rfl rfl HTd.out.xb (by show (Try.prog.info? 24).map (·.size) = some 3; kernel_rfl) rfl (by simp [Value.oneCell']) ?_)
  clear HTq HOd HTd
  generalize ud.setRow w.heap.size #[.string dn, .int .i64 dl, .slice A n c] = ue at *
  clear c0
  refine wp_region_held_drew (S := fun v => v.cell? ⟨w1.heap.size, 0, none⟩ = some (.pointer (some ⟨g, 0, none⟩))) (by kernel_rfl) (HT.out.ts.drew.cell) (fun hHeld => ?_)
  have HD := Lib.hid HT.out.drew
  clear HT
  refine wpAnyH_take (i := 0) (oi := ⟨some 11, _, _, _, _, _⟩) (v := ?_) rfl (by kernel_rfl) (by kernel_rfl) (by kernel_rfl) (fun _ _ _ h => h) (Or.inl ⟨by rfl, ?_⟩) (by assumption) ?_
  rotate_left
  · (intro u hu; (try dsimp only at hu); go_simp; (try with_reducible rfl))
  (try simp only [Act.put, List.setIfInBounds_toArray, List.set_cons_zero, List.set_cons_succ])
  refine wpAnyH_ready (rs := [1, 2]) (by decide +kernel) (by simp) ?_
  refine AllReadyH.cons (o := ⟨some 12, _, _, _, _, _⟩) rfl (fun K hK => ?_) (AllReadyH.cons (o := ⟨some 13, _, _, _, _, _⟩) rfl (fun K hK => ?_) AllReadyH.nil)
  · obtain ⟨x0, x1, x2⟩ := dfc HD.out.ts.xb
    go_simp
    refine hK.out _ _ ?_ (fun hHeld => ?_)
    · exact HD.out.ts.cell
    clear hK K x0 x1 x2
    (try simp only [Act.put, List.setIfInBounds_toArray, List.set_cons_zero, List.set_cons_succ])
    refine wpAnyH_ready (rs := [2]) (by decide +kernel) (by simp) ?_
    refine AllReadyH.cons (o := ⟨some 13, _, _, _, _, _⟩) rfl (fun K hK => ?_) AllReadyH.nil
    obtain ⟨x0, x1, x2⟩ := dfc HD.out.ts.xb
    go_simp
    refine hK.out _ _ ?_ (fun hHeld => ?_)
    · exact HD.out.ts.cell
    clear hK K x0 x1 x2
    (try simp only [Act.put, List.setIfInBounds_toArray, List.set_cons_zero, List.set_cons_succ])
    refine wpAnyH_ready (rs := [3]) (by decide +kernel) (by simp) ?_
    refine AllReadyH.cons (o := ⟨some 14, _, _, _, _, _⟩) rfl (fun K hK => ?_) AllReadyH.nil
    go_simp
    refine (rightDef_any dn dl A c ss n _ HD.out.len HD.out.cap HMo.out (steps_own HD.out.own)).mono ?_
    rintro e wg ⟨rfl, hb⟩
    have HTg := Lib.hid (HD.out.below hb)
    clear hb
    go_wp2_with fail
    refine hK.out _ _ ?_ (fun hHeld => ?_)
    · exact HTg.out.ts.cell
    clear hK K
    (try simp only [Act.put, List.setIfInBounds_toArray, List.set_cons_zero, List.set_cons_succ])
    refine wpAnyH_ready (rs := [4]) (by decide +kernel) (by simp) ?_
    refine AllReadyH.cons (o := ⟨some 15, _, _, _, _, _⟩) rfl (fun K hK => ?_) AllReadyH.nil
    go_simp
    refine (taken_def dn dl A n c (rightB dn dl ss) HTg.out.ts.rd).mono ?_
    rintro e wt ⟨rfl, hR⟩
    rw [HTe.out] at hR ⊢
    have HTt := Lib.hid (HTg.out.call hR)
    obtain ⟨cs, a1, a2, hcs, hz, h1⟩ := taken_form3 T (rightB dn dl ss) dn dl A n c
    have HV := Lib.hid hcs
    have HZ := Lib.hid hz
    rw [hcs]
    clear hcs hz hR
    go_wp2_with fail
    refine hK.out _ _ ?_ (fun hHeld => ?_)
    · exact HTt.out.ts.cell
    clear hK K
    (try simp only [Act.put, List.setIfInBounds_toArray, List.set_cons_zero, List.set_cons_succ])
    refine wpAnyH_take (i := 5) (oi := ⟨some 16, _, _, _, _, _⟩) (v := ?_) rfl (by kernel_rfl) (by kernel_rfl) (by kernel_rfl) (fun _ _ _ h => h) (Or.inl ⟨by rfl, ?_⟩) (by assumption) ?_
    rotate_left
    · (intro u hu; (try dsimp only at hu); go_simp; (try with_reducible rfl))
    (try simp only [Act.put, List.setIfInBounds_toArray, List.set_cons_zero, List.set_cons_succ])
    refine wpAnyH_take (i := 6) (oi := ⟨some 17, _, _, _, _, _⟩) (v := ?_) rfl (by kernel_rfl) (by kernel_rfl) (by kernel_rfl) (fun _ _ _ h => h) (Or.inl ⟨by rfl, ?_⟩) (by assumption) ?_
    rotate_left
    · (intro u hu; (try dsimp only at hu); go_simp; (try with_reducible rfl))
    (try simp only [Act.put, List.setIfInBounds_toArray, List.set_cons_zero, List.set_cons_succ])
    refine wpAnyH_take (i := 7) (oi := ⟨some 18, _, _, _, _, _⟩) (v := ?_) rfl (by kernel_rfl) (by kernel_rfl) (by kernel_rfl) (fun _ _ _ h => h) (Or.inl ⟨by rfl, ?_⟩) (by assumption) ?_
    rotate_left
    · (intro u hu; (try dsimp only at hu); go_simp; (try with_reducible rfl))
    (try simp only [Act.put, List.setIfInBounds_toArray, List.set_cons_zero, List.set_cons_succ])
    refine wpAnyH_ready (rs := [8]) (by decide +kernel) (by simp) ?_
    refine AllReadyH.cons (o := ⟨none, _, _, _, _, _⟩) rfl (fun K hK => ?_) AllReadyH.nil
    rw [if_pos (by rfl)]
    refine oper_store 24 _ _ rfl (w.heap.size) 24 _ cs rfl rfl HTt.out.ts.xb (by rw [HZ.out]; kernel_rfl) (by rw [HZ.out]; rfl) h1 ?_
    have HTr := Lib.hid (HTt.out.ts.row (noU_df dn dl A n c) cs)
    refine hK.out _ _ ?_ (fun hHeld => ?_)
    · exact HTr.out.cell
    clear hK K
    (try simp only [Act.put])
    refine wpAnyH_take (i := 9) (oi := ⟨some 3, _, _, _, _, _⟩) (v := ?_) rfl (by kernel_rfl) (by kernel_rfl) (by kernel_rfl) (fun _ _ _ h => h) (Or.inl ⟨by rfl, ?_⟩) (by assumption) ?_
    rotate_left
    · (intro u hu; (try dsimp only at hu); go_simp; (try with_reducible rfl))
    (try simp only [Act.put, List.setIfInBounds_toArray, List.set_cons_zero, List.set_cons_succ])
    refine wpAnyH_take (i := 10) (oi := ⟨some 4, _, _, _, _, _⟩) (v := ?_) rfl (by kernel_rfl) (by kernel_rfl) (by kernel_rfl) (fun _ _ _ h => h) (Or.inl ⟨by rfl, ?_⟩) (by assumption) ?_
    rotate_left
    · (intro u hu; (try dsimp only at hu); go_simp; (try with_reducible rfl))
    (try simp only [Act.put, List.setIfInBounds_toArray, List.set_cons_zero, List.set_cons_succ])
    refine wpAnyH_done (by kernel_rfl) ?_ _
    go_wp2_with fail
    refine bodyPost_ret (res_ctt rfl _ _ (w.heap.size) cs Try.underlying24 (by rw [HZ.out]; kernel_rfl) rfl HTr.out.xb) rfl (HF.out _ _ _ _ _ HTt.out.len HTt.out.cap ?_ HTr.out.bel (by rw [HV.out]; rfl))
    exact steps_own (HTt.out.own.kept (setRow_grown wt w.heap.size cs) (.inr (own_far HTt.out.own HTt.out.ts.xb (by decide))))
  · obtain ⟨x0, x1, x2⟩ := dfc HD.out.ts.xb
    go_simp
    refine hK.out _ _ ?_ (fun hHeld => ?_)
    · exact HD.out.ts.cell
    clear hK K x0 x1 x2
    (try simp only [Act.put, List.setIfInBounds_toArray, List.set_cons_zero, List.set_cons_succ])
    refine wpAnyH_ready (rs := [1, 3]) (by decide +kernel) (by simp) ?_
    refine AllReadyH.cons (o := ⟨some 12, _, _, _, _, _⟩) rfl (fun K hK => ?_) (AllReadyH.cons (o := ⟨some 14, _, _, _, _, _⟩) rfl (fun K hK => ?_) AllReadyH.nil)
    · obtain ⟨x0, x1, x2⟩ := dfc HD.out.ts.xb
      go_simp
      refine hK.out _ _ ?_ (fun hHeld => ?_)
      · exact HD.out.ts.cell
      clear hK K x0 x1 x2
      (try simp only [Act.put, List.setIfInBounds_toArray, List.set_cons_zero, List.set_cons_succ])
      refine wpAnyH_ready (rs := [3]) (by decide +kernel) (by simp) ?_
      refine AllReadyH.cons (o := ⟨some 14, _, _, _, _, _⟩) rfl (fun K hK => ?_) AllReadyH.nil
      go_simp
      refine (rightDef_any dn dl A c ss n _ HD.out.len HD.out.cap HMo.out (steps_own HD.out.own)).mono ?_
      rintro e wg ⟨rfl, hb⟩
      have HTg := Lib.hid (HD.out.below hb)
      clear hb
      go_wp2_with fail
      refine hK.out _ _ ?_ (fun hHeld => ?_)
      · exact HTg.out.ts.cell
      clear hK K
      (try simp only [Act.put, List.setIfInBounds_toArray, List.set_cons_zero, List.set_cons_succ])
      refine wpAnyH_ready (rs := [4]) (by decide +kernel) (by simp) ?_
      refine AllReadyH.cons (o := ⟨some 15, _, _, _, _, _⟩) rfl (fun K hK => ?_) AllReadyH.nil
      go_simp
      refine (taken_def dn dl A n c (rightB dn dl ss) HTg.out.ts.rd).mono ?_
      rintro e wt ⟨rfl, hR⟩
      rw [HTe.out] at hR ⊢
      have HTt := Lib.hid (HTg.out.call hR)
      obtain ⟨cs, a1, a2, hcs, hz, h1⟩ := taken_form3 T (rightB dn dl ss) dn dl A n c
      have HV := Lib.hid hcs
      have HZ := Lib.hid hz
      rw [hcs]
      clear hcs hz hR
      go_wp2_with fail
      refine hK.out _ _ ?_ (fun hHeld => ?_)
      · exact HTt.out.ts.cell
      clear hK K
      (try simp only [Act.put, List.setIfInBounds_toArray, List.set_cons_zero, List.set_cons_succ])
      refine wpAnyH_take (i := 5) (oi := ⟨some 16, _, _, _, _, _⟩) (v := ?_) rfl (by kernel_rfl) (by kernel_rfl) (by kernel_rfl) (fun _ _ _ h => h) (Or.inl ⟨by rfl, ?_⟩) (by assumption) ?_
      rotate_left
      · (intro u hu; (try dsimp only at hu); go_simp; (try with_reducible rfl))
      (try simp only [Act.put, List.setIfInBounds_toArray, List.set_cons_zero, List.set_cons_succ])
      refine wpAnyH_take (i := 6) (oi := ⟨some 17, _, _, _, _, _⟩) (v := ?_) rfl (by kernel_rfl) (by kernel_rfl) (by kernel_rfl) (fun _ _ _ h => h) (Or.inl ⟨by rfl, ?_⟩) (by assumption) ?_
      rotate_left
      · (intro u hu; (try dsimp only at hu); go_simp; (try with_reducible rfl))
      (try simp only [Act.put, List.setIfInBounds_toArray, List.set_cons_zero, List.set_cons_succ])
      refine wpAnyH_take (i := 7) (oi := ⟨some 18, _, _, _, _, _⟩) (v := ?_) rfl (by kernel_rfl) (by kernel_rfl) (by kernel_rfl) (fun _ _ _ h => h) (Or.inl ⟨by rfl, ?_⟩) (by assumption) ?_
      rotate_left
      · (intro u hu; (try dsimp only at hu); go_simp; (try with_reducible rfl))
      (try simp only [Act.put, List.setIfInBounds_toArray, List.set_cons_zero, List.set_cons_succ])
      refine wpAnyH_ready (rs := [8]) (by decide +kernel) (by simp) ?_
      refine AllReadyH.cons (o := ⟨none, _, _, _, _, _⟩) rfl (fun K hK => ?_) AllReadyH.nil
      rw [if_pos (by rfl)]
      refine oper_store 24 _ _ rfl (w.heap.size) 24 _ cs rfl rfl HTt.out.ts.xb (by rw [HZ.out]; kernel_rfl) (by rw [HZ.out]; rfl) h1 ?_
      have HTr := Lib.hid (HTt.out.ts.row (noU_df dn dl A n c) cs)
      refine hK.out _ _ ?_ (fun hHeld => ?_)
      · exact HTr.out.cell
      clear hK K
      (try simp only [Act.put])
      refine wpAnyH_take (i := 9) (oi := ⟨some 3, _, _, _, _, _⟩) (v := ?_) rfl (by kernel_rfl) (by kernel_rfl) (by kernel_rfl) (fun _ _ _ h => h) (Or.inl ⟨by rfl, ?_⟩) (by assumption) ?_
      rotate_left
      · (intro u hu; (try dsimp only at hu); go_simp; (try with_reducible rfl))
      (try simp only [Act.put, List.setIfInBounds_toArray, List.set_cons_zero, List.set_cons_succ])
      refine wpAnyH_take (i := 10) (oi := ⟨some 4, _, _, _, _, _⟩) (v := ?_) rfl (by kernel_rfl) (by kernel_rfl) (by kernel_rfl) (fun _ _ _ h => h) (Or.inl ⟨by rfl, ?_⟩) (by assumption) ?_
      rotate_left
      · (intro u hu; (try dsimp only at hu); go_simp; (try with_reducible rfl))
      (try simp only [Act.put, List.setIfInBounds_toArray, List.set_cons_zero, List.set_cons_succ])
      refine wpAnyH_done (by kernel_rfl) ?_ _
      go_wp2_with fail
      refine bodyPost_ret (res_ctt rfl _ _ (w.heap.size) cs Try.underlying24 (by rw [HZ.out]; kernel_rfl) rfl HTr.out.xb) rfl (HF.out _ _ _ _ _ HTt.out.len HTt.out.cap ?_ HTr.out.bel (by rw [HV.out]; rfl))
      exact steps_own (HTt.out.own.kept (setRow_grown wt w.heap.size cs) (.inr (own_far HTt.out.own HTt.out.ts.xb (by decide))))
    · go_simp
      refine (rightDef_any dn dl A c ss n _ HD.out.len HD.out.cap HMo.out (steps_own HD.out.own)).mono ?_
      rintro e wg ⟨rfl, hb⟩
      have HTg := Lib.hid (HD.out.below hb)
      clear hb
      go_wp2_with fail
      refine hK.out _ _ ?_ (fun hHeld => ?_)
      · exact HTg.out.ts.cell
      clear hK K
      (try simp only [Act.put, List.setIfInBounds_toArray, List.set_cons_zero, List.set_cons_succ])
      refine wpAnyH_ready (rs := [1]) (by decide +kernel) (by simp) ?_
      refine AllReadyH.cons (o := ⟨some 12, _, _, _, _, _⟩) rfl (fun K hK => ?_) AllReadyH.nil
      obtain ⟨x0, x1, x2⟩ := dfc HTg.out.ts.xb
      go_simp
      refine hK.out _ _ ?_ (fun hHeld => ?_)
      · exact HTg.out.ts.cell
      clear hK K x0 x1 x2
      (try simp only [Act.put, List.setIfInBounds_toArray, List.set_cons_zero, List.set_cons_succ])
      refine wpAnyH_ready (rs := [4]) (by decide +kernel) (by simp) ?_
      refine AllReadyH.cons (o := ⟨some 15, _, _, _, _, _⟩) rfl (fun K hK => ?_) AllReadyH.nil
      go_simp
      refine (taken_def dn dl A n c (rightB dn dl ss) HTg.out.ts.rd).mono ?_
      rintro e wt ⟨rfl, hR⟩
      rw [HTe.out] at hR ⊢
      have HTt := Lib.hid (HTg.out.call hR)
      obtain ⟨cs, a1, a2, hcs, hz, h1⟩ := taken_form3 T (rightB dn dl ss) dn dl A n c
      have HV := Lib.hid hcs
      have HZ := Lib.hid hz
      rw [hcs]
      clear hcs hz hR
      go_wp2_with fail
      refine hK.out _ _ ?_ (fun hHeld => ?_)
      · exact HTt.out.ts.cell
      clear hK K
      (try simp only [Act.put, List.setIfInBounds_toArray, List.set_cons_zero, List.set_cons_succ])
      refine wpAnyH_take (i := 5) (oi := ⟨some 16, _, _, _, _, _⟩) (v := ?_) rfl (by kernel_rfl) (by kernel_rfl) (by kernel_rfl) (fun _ _ _ h => h) (Or.inl ⟨by rfl, ?_⟩) (by assumption) ?_
      rotate_left
      · (intro u hu; (try dsimp only at hu); go_simp; (try with_reducible rfl))
      (try simp only [Act.put, List.setIfInBounds_toArray, List.set_cons_zero, List.set_cons_succ])
      refine wpAnyH_take (i := 6) (oi := ⟨some 17, _, _, _, _, _⟩) (v := ?_) rfl (by kernel_rfl) (by kernel_rfl) (by kernel_rfl) (fun _ _ _ h => h) (Or.inl ⟨by rfl, ?_⟩) (by assumption) ?_
      rotate_left
      · (intro u hu; (try dsimp only at hu); go_simp; (try with_reducible rfl))
      (try simp only [Act.put, List.setIfInBounds_toArray, List.set_cons_zero, List.set_cons_succ])
      refine wpAnyH_take (i := 7) (oi := ⟨some 18, _, _, _, _, _⟩) (v := ?_) rfl (by kernel_rfl) (by kernel_rfl) (by kernel_rfl) (fun _ _ _ h => h) (Or.inl ⟨by rfl, ?_⟩) (by assumption) ?_
      rotate_left
      · (intro u hu; (try dsimp only at hu); go_simp; (try with_reducible rfl))
      (try simp only [Act.put, List.setIfInBounds_toArray, List.set_cons_zero, List.set_cons_succ])
      refine wpAnyH_ready (rs := [8]) (by decide +kernel) (by simp) ?_
      refine AllReadyH.cons (o := ⟨none, _, _, _, _, _⟩) rfl (fun K hK => ?_) AllReadyH.nil
      rw [if_pos (by rfl)]
      refine oper_store 24 _ _ rfl (w.heap.size) 24 _ cs rfl rfl HTt.out.ts.xb (by rw [HZ.out]; kernel_rfl) (by rw [HZ.out]; rfl) h1 ?_
      have HTr := Lib.hid (HTt.out.ts.row (noU_df dn dl A n c) cs)
      refine hK.out _ _ ?_ (fun hHeld => ?_)
      · exact HTr.out.cell
      clear hK K
      (try simp only [Act.put])
      refine wpAnyH_take (i := 9) (oi := ⟨some 3, _, _, _, _, _⟩) (v := ?_) rfl (by kernel_rfl) (by kernel_rfl) (by kernel_rfl) (fun _ _ _ h => h) (Or.inl ⟨by rfl, ?_⟩) (by assumption) ?_
      rotate_left
      · (intro u hu; (try dsimp only at hu); go_simp; (try with_reducible rfl))
      (try simp only [Act.put, List.setIfInBounds_toArray, List.set_cons_zero, List.set_cons_succ])
      refine wpAnyH_take (i := 10) (oi := ⟨some 4, _, _, _, _, _⟩) (v := ?_) rfl (by kernel_rfl) (by kernel_rfl) (by kernel_rfl) (fun _ _ _ h => h) (Or.inl ⟨by rfl, ?_⟩) (by assumption) ?_
      rotate_left
      · (intro u hu; (try dsimp only at hu); go_simp; (try with_reducible rfl))
      (try simp only [Act.put, List.setIfInBounds_toArray, List.set_cons_zero, List.set_cons_succ])
      refine wpAnyH_done (by kernel_rfl) ?_ _
      go_wp2_with fail
      refine bodyPost_ret (res_ctt rfl _ _ (w.heap.size) cs Try.underlying24 (by rw [HZ.out]; kernel_rfl) rfl HTr.out.xb) rfl (HF.out _ _ _ _ _ HTt.out.len HTt.out.cap ?_ HTr.out.bel (by rw [HV.out]; rfl))
      exact steps_own (HTt.out.own.kept (setRow_grown wt w.heap.size cs) (.inr (own_far HTt.out.own HTt.out.ts.xb (by decide))))
end Go.Proofs.Ytihkadbcjeohjaa.Co

namespace Go.Proofs.Ytihkadbcjeohjaa.Bo
open Go.RowKit Go.Sort

set_option maxHeartbeats 800000 in
theorem rgood_any (p : P) (w : World) :
    Calls Try.prog 38 #[p.val] w fun e w' => e = .returned (.bool p.goodB) ∧ Made w w' := by
  obtain ⟨r, b, f, c⟩ := p
  show Calls Try.prog 38 #[.agg #[.int .i64 r, .int .i64 b, .int .i64 f, .int .i64 c]] w fun e w' => e = .returned (.bool (P.goodB ⟨r, b, f, c⟩)) ∧ Made w w'
  go_enter Try.func38, Try.ntmps38
  go_wp2
  all_goals
    go_ret
    refine ⟨ret_bool ?_, Made.alloc _ _⟩
    rw [Bool.eq_iff_iff]
    simp only [goodB_iff, decide_eq_true_eq, Bool.false_eq_true, false_iff]
    omega
theorem rgood_is (p : P) {v : Bool} (h : p.goodB = v) (w : World) : Calls Try.prog 38 #[.agg #[.int .i64 p.r, .int .i64 p.b, .int .i64 p.f, .int .i64 p.c]] w fun e w' => e = .returned (.bool v) ∧ Made w w' := h ▸ rgood_any p w
end Go.Proofs.Ytihkadbcjeohjaa.Bo

namespace Go.Proofs.Ytihkadbcjeohjaa.Df
open Go.RowKit
open Go.Proofs.Ytihkadbcjeohjaa.El
open Go.Proofs.Ytihkadbcjeohjaa.Bo (P Made ret_int ret_bool)

section
variable {ss : List Stp} {i : Nat} {s : Stp}
theorem stepE_10 (h : nameB s.nm.data.toList = false ∨ nameB s.pt.data.toList = false) : stepE ss i s = 10 := by unfold stepE; rw [if_pos h]
theorem stepE_6 (h : ¬ (nameB s.nm.data.toList = false ∨ nameB s.pt.data.toList = false)) (h6 : (ss.take i).any (fun x => decide (x.nm = s.nm)) = true) : stepE ss i s = 6 := by unfold stepE; rw [if_neg h, if_pos h6]
theorem stepE_1 (h : ¬ (nameB s.nm.data.toList = false ∨ nameB s.pt.data.toList = false)) (h6 : (ss.take i).any (fun x => decide (x.nm = s.nm)) = false) (h1 : s.tm < 1 ∨ 1099511627776 < s.tm ∨ s.pr < 0 ∨ 255 < s.pr) : stepE ss i s = 1 := by
  unfold stepE; rw [if_neg h, if_neg (by rw [h6]; simp), if_pos h1]
theorem stepE_3 (h : ¬ (nameB s.nm.data.toList = false ∨ nameB s.pt.data.toList = false)) (h6 : (ss.take i).any (fun x => decide (x.nm = s.nm)) = false) (h1 : ¬ (s.tm < 1 ∨ 1099511627776 < s.tm ∨ s.pr < 0 ∨ 255 < s.pr)) (h3 : ¬ s.t.Good ∨ ¬ s.u.Good) : stepE ss i s = 3 := by
  unfold stepE; rw [if_neg h, if_neg (by rw [h6]; simp), if_neg h1, if_pos h3]
theorem stepE_0 (h : ¬ (nameB s.nm.data.toList = false ∨ nameB s.pt.data.toList = false)) (h6 : (ss.take i).any (fun x => decide (x.nm = s.nm)) = false) (h1 : ¬ (s.tm < 1 ∨ 1099511627776 < s.tm ∨ s.pr < 0 ∨ 255 < s.pr)) (h3 : ¬ (¬ s.t.Good ∨ ¬ s.u.Good)) : stepE ss i s = 0 := by
  unfold stepE; rw [if_neg h, if_neg (by rw [h6]; simp), if_neg h1, if_neg h3]
end
set_option maxHeartbeats 8000000 in
set_option maxRecDepth 100000 in
theorem rcheck_any (nm : ByteArray) (dl : Int) (A : Option Addr) (c : Nat) (ss : List Stp) (n : Nat) (w : World) (hn : n = ss.length) (hb : n ≤ 9223372036854775807) (hS : Steps w w.heap.size A ss) (hz : nm.size ≤ 140737488355328) (hzs : ∀ s ∈ ss, s.nm.size ≤ 140737488355328 ∧ s.pt.size ≤ 140737488355328) :
    Calls Try.prog 14 #[.agg #[.string nm, .int .i64 dl, .slice A n c]] w (ChkPost nm dl ss w) := by
  have hwb : Hid (Below w.heap.size w (w.alloc (.cells #[.string nm, .int .i64 dl, .slice A n c] 24))) := Lib.hid ((Below.refl w.heap.size w).alloc (Nat.le_refl _) _)
  have hz0 : (w.alloc (.cells #[.string nm, .int .i64 dl, .slice A n c] 24)).heap.size = w.heap.size + 1 := by simp
  have HG1 := Lib.hid (fun w => rgood_any nm w hz)
  have HB := Lib.hid (Below.refl (w.heap.size + 1) (w.alloc (.cells #[.string nm, .int .i64 dl, .slice A n c] 24)))
  have HS := Lib.hid hS
  have HN := Lib.hid hn
  have HZ := Lib.hid hzs
  clear hS hn hz hzs
  cases n1 : nameB nm.data.toList with
  | false =>
    rw [n1] at HG1
    have HE : Hid (ChkIs nm dl ss (-1) 10) := Lib.hid (by unfold ChkIs; rw [if_pos n1]; exact ⟨rfl, rfl⟩)
    clear n1
    go_enter Try.func14, Try.ntmps14
    go_wp2_with (first
      | (go_at_call 37; (with_reducible refine (HG1.out _).mono ?_); rintro e w' ⟨rfl, rfl⟩))
    go_ret2
    exact ⟨_, _, rfl, HE.out, hwb.out⟩
  | true =>
    rw [n1] at HG1
    have hn1 : ¬ nameB nm.data.toList = false := by rw [n1]; simp
    have HN1 := Lib.hid hn1
    clear n1 hn1
    by_cases h2 : dl < 0 ∨ 1099511627776 < dl
    · have HE : Hid (ChkIs nm dl ss (-1) 1) := Lib.hid (by unfold ChkIs; rw [if_neg HN1.out, if_pos h2]; exact ⟨rfl, rfl⟩)
      by_cases h2a : dl < 0
      · clear h2
        go_enter Try.func14, Try.ntmps14
        go_wp2_with (first
          | (go_at_call 37; (with_reducible refine (HG1.out _).mono ?_); rintro e w' ⟨rfl, rfl⟩))
        go_ret2
        exact ⟨_, _, rfl, HE.out, hwb.out⟩
      · have h2b : 1099511627776 < dl := by omega
        clear h2
        go_enter Try.func14, Try.ntmps14
        go_wp2_with (first
          | (go_at_call 37; (with_reducible refine (HG1.out _).mono ?_); rintro e w' ⟨rfl, rfl⟩))
        go_ret2
        exact ⟨_, _, rfl, HE.out, hwb.out⟩
    · have HN2 := Lib.hid h2
      have h2a : ¬ dl < 0 := by omega
      have h2b : ¬ 1099511627776 < dl := by omega
      clear h2
      by_cases h3 : n = 0
      · have HE : Hid (ChkIs nm dl ss (-1) 2) := Lib.hid (by unfold ChkIs; rw [if_neg HN1.out, if_neg HN2.out, if_pos (by have := HN.out; omega)]; exact ⟨rfl, rfl⟩)
        have g3 : ((n : Int) < 1) := by omega
        clear h3
        go_enter Try.func14, Try.ntmps14
        go_wp2_with (first
          | (go_at_call 37; (with_reducible refine (HG1.out _).mono ?_); rintro e w' ⟨rfl, rfl⟩))
        go_ret2
        exact ⟨_, _, rfl, HE.out, hwb.out⟩
      · have g3 : ¬ ((n : Int) < 1) := by omega
        by_cases h4 : 32 < n
        · have HE : Hid (ChkIs nm dl ss (-1) 4) := Lib.hid (by unfold ChkIs; rw [if_neg HN1.out, if_neg HN2.out, if_neg (by have := HN.out; omega), if_pos (by have := HN.out; omega)]; exact ⟨rfl, rfl⟩)
          go_enter Try.func14, Try.ntmps14
          go_wp2_with (first
            | (go_at_call 37; (with_reducible refine (HG1.out _).mono ?_); rintro e w' ⟨rfl, rfl⟩))
          go_ret2
          exact ⟨_, _, rfl, HE.out, hwb.out⟩
        · have HE : Hid (∀ k e, FaultIs ss k e → ChkIs nm dl ss k e) := Lib.hid (fun k e h => by unfold ChkIs; rw [if_neg HN1.out, if_neg HN2.out, if_neg (by have := HN.out; omega), if_neg (by have := HN.out; omega)]; exact h)
          have e32 : decide ((32 : Int) < (n : Int)) = false := decide_eq_false (by omega)
          have e1 : decide ((n : Int) < 1) = false := decide_eq_false (by omega)
          have e2a : decide (dl < 0) = false := decide_eq_false (by omega)
          have e2b : decide ((1099511627776 : Int) < dl) = false := decide_eq_false (by omega)
          clear h3
          go_enter Try.func14, Try.ntmps14
          go_wp2_with (first
            | (go_at_call 37; (with_reducible refine (HG1.out _).mono ?_); rintro e w' ⟨rfl, rfl⟩))
          clear HG1
          go_loopw [4] (fun vi wr => ∃ k : Nat, vi = .int .i64 (k : Int) ∧ k ≤ n ∧ Hid (Below (w.heap.size + 1) (w.alloc (.cells #[.string nm, .int .i64 dl, .slice A n c] 24)) wr) ∧ Hid (∀ (j : Nat) (t : Stp), j < k → ss[j]? = some t → stepE ss j t = 0)) (fun vi _ => n - (intOf vi).toNat)
          case atStart => exact ⟨0, rfl, Nat.zero_le _, HB, Lib.hid fun j t hj => absurd hj (by omega)⟩
          case round =>
            obtain ⟨k, rfl, hk, HW, HI⟩ := hrel
            have e2 := Dc2 (dbox HW.out)
            by_cases hkn : k < n
            · obtain ⟨x, hx⟩ : ∃ x, ss[k]? = some x := ⟨_, List.getElem?_eq_getElem (by have := HN.out; omega)⟩
              obtain ⟨b, o, rfl, hbl⟩ := HS.out.at_ hx
              have HSr := Lib.hid (HS.out.on (hwb.out.trans (HW.out.mono (by omega))))
              have c0 : (wr).cell? ⟨b, o + k * 12, none⟩ = some (.string x.nm) := HSr.out.get hx 0 rfl
              have c1 : (wr).cell? ⟨b, o + k * 12 + 1, none⟩ = some (.string x.pt) := HSr.out.get hx 1 rfl
              have c2 : (wr).cell? ⟨b, o + k * 12 + 2, none⟩ = some (.int .i64 x.tm) := HSr.out.get hx 2 rfl
              have c3 : (wr).cell? ⟨b, o + k * 12 + 3, none⟩ = some (.int .i64 x.t.r) := HSr.out.get hx 3 rfl
              have c4 : (wr).cell? ⟨b, o + k * 12 + 4, none⟩ = some (.int .i64 x.t.b) := HSr.out.get hx 4 rfl
              have c5 : (wr).cell? ⟨b, o + k * 12 + 5, none⟩ = some (.int .i64 x.t.f) := HSr.out.get hx 5 rfl
              have c6 : (wr).cell? ⟨b, o + k * 12 + 6, none⟩ = some (.int .i64 x.t.c) := HSr.out.get hx 6 rfl
              have c7 : (wr).cell? ⟨b, o + k * 12 + 7, none⟩ = some (.int .i64 x.u.r) := HSr.out.get hx 7 rfl
              have c8 : (wr).cell? ⟨b, o + k * 12 + 8, none⟩ = some (.int .i64 x.u.b) := HSr.out.get hx 8 rfl
              have c9 : (wr).cell? ⟨b, o + k * 12 + 9, none⟩ = some (.int .i64 x.u.f) := HSr.out.get hx 9 rfl
              have c10 : (wr).cell? ⟨b, o + k * 12 + 10, none⟩ = some (.int .i64 x.u.c) := HSr.out.get hx 10 rfl
              have c11 : (wr).cell? ⟨b, o + k * 12 + 11, none⟩ = some (.int .i64 x.pr) := HSr.out.get hx 11 rfl
              have hws : w.heap.size + 1 ≤ wr.heap.size := by have := HW.out.size; omega
              have HX := Lib.hid hx
              have hzx := HZ.out x (List.mem_of_getElem? hx)
              have HX1 := Lib.hid (fun w => rgood_any x.nm w hzx.1)
              have HX2 := Lib.hid (fun w => rgood_any x.pt w hzx.2)
              have HF : Hid (∀ e, stepE ss k x = e → e ≠ 0 → ChkIs nm dl ss (k : Int) e) := Lib.hid fun e he h0 => HE.out (k : Int) e (.inl ⟨k, x, HX.out, he.symm, by rw [he]; exact h0, rfl, HI.out⟩)
              have HV0 : Hid (Box (wr.alloc (.cells x.arr 67)) wr.heap.size 67 x.arr ∧ Below (w.heap.size + 1) (w.alloc (.cells #[.string nm, .int .i64 dl, .slice (some ⟨b, o, none⟩) n c] 24)) (wr.alloc (.cells x.arr 67))) := Lib.hid ⟨Box.new _ _ _, HW.out.alloc hws _⟩
              unfold Stp.arr at HV0
              clear hx hzx
              cases n2 : nameB x.nm.data.toList with
              | false =>
                rw [n2] at HX1
                have HG := Lib.hid (HF.out 10 (stepE_10 (.inl n2)) (by decide))
                clear n2
                go_wp2_with (first | (go_at_call 37; (with_reducible refine (HX1.out _).mono ?_); rintro e w' ⟨rfl, rfl⟩) | (go_at_call 37; (with_reducible refine (HX2.out _).mono ?_); rintro e w' ⟨rfl, rfl⟩))
                go_ret2
                exact ⟨_, _, rfl, HG.out, hwb.out.trans (HV0.out.2.mono (by omega))⟩
              | true =>
                rw [n2] at HX1
                cases n3 : nameB x.pt.data.toList with
                | false =>
                  rw [n3] at HX2
                  have HG := Lib.hid (HF.out 10 (stepE_10 (.inr n3)) (by decide))
                  clear n2 n3
                  go_wp2_with (first | (go_at_call 37; (with_reducible refine (HX1.out _).mono ?_); rintro e w' ⟨rfl, rfl⟩) | (go_at_call 37; (with_reducible refine (HX2.out _).mono ?_); rintro e w' ⟨rfl, rfl⟩))
                  go_ret2
                  exact ⟨_, _, rfl, HG.out, hwb.out.trans (HV0.out.2.mono (by omega))⟩
                | true =>
                  rw [n3] at HX2
                  have HNm : Hid (¬ (nameB x.nm.data.toList = false ∨ nameB x.pt.data.toList = false)) := Lib.hid (by rw [n2, n3]; simp)
                  clear n2 n3
                  go_wp2_with (first | (go_at_call 37; (with_reducible refine (HX1.out _).mono ?_); rintro e w' ⟨rfl, rfl⟩) | (go_at_call 37; (with_reducible refine (HX2.out _).mono ?_); rintro e w' ⟨rfl, rfl⟩))
                  generalize wr.alloc _ = W1 at *
                  go_loopw [6] (fun vk wr2 => ∃ j q : Nat, vk = .int .i64 (j : Int) ∧ j ≤ k ∧ wr2 = W1.drewN q ∧ Hid (∀ (j' : Nat) (t : Stp), j' < j → ss[j']? = some t → t.nm ≠ x.nm)) (fun vk _ => k - (intOf vk).toNat)
                  case atStart => exact ⟨0, 0, rfl, Nat.zero_le _, rfl, Lib.hid fun j t hj => absurd hj (by omega)⟩
                  case round =>
                    obtain ⟨j, q, rfl, hj, rfl, HJ⟩ := hrel
                    have HS1 : Hid (Box (W1.drewN q) wr.heap.size 67 x.arr) := Lib.hid HV0.out.1
                    have HV : Hid (Below (w.heap.size + 1) (w.alloc (.cells #[.string nm, .int .i64 dl, .slice (some ⟨b, o, none⟩) n c] 24)) (W1.drewN q)) := Lib.hid (HV0.out.2.trans ⟨rfl, rfl, rfl, Nat.le_refl _, fun _ _ => rfl⟩)
                    have HQ : Hid (∀ m, (W1.drewN q).drewN m = W1.drewN (q + m)) := Lib.hid fun m => World.drewN_drewN _ _ _
                    obtain ⟨c0, c1, c2, c3, c4, c5, c6, c7, c8, c9, c10, c11⟩ := scells (s := x) HS1.out
                    have e2 := Dc2 (dbox HV.out)
                    by_cases hjk : j < k
                    · obtain ⟨y, hy⟩ : ∃ y, ss[j]? = some y := ⟨_, List.getElem?_eq_getElem (by have := HN.out; omega)⟩
                      have d0 : (W1.drewN q).cell? ⟨b, o + j * 12, none⟩ = some (.string y.nm) := (HS.out.on (hwb.out.trans (HV.out.mono (by omega)))).get hy 0 rfl
                      generalize W1.drewN q = wq at *
                      by_cases he : y.nm = x.nm
                      · have g1 : (y.nm.toList == x.nm.toList) = true := by rw [bytes_beq]; exact decide_eq_true he
                        have HG := Lib.hid (HF.out 6 (stepE_6 HNm.out (any_hit hy hjk he)) (by decide))
                        clear hy he
                        go_wp2_with fail
                        go_quiet (fail)
                        go_wp2
                        go_ret2
                        exact ⟨_, _, rfl, HG.out, hwb.out.trans ((HV.out.mono (by omega)).trans ⟨rfl, rfl, rfl, Nat.le_refl _, fun _ _ => rfl⟩)⟩
                      · have g1 : (y.nm.toList == x.nm.toList) = false := by rw [bytes_beq]; exact decide_eq_false he
                        have HJ2 : Hid (∀ (j' : Nat) (t : Stp), j' < j + 1 → ss[j']? = some t → t.nm ≠ x.nm) := Lib.hid fun j' t hj' ht => by
                          by_cases e : j' = j
                          · subst e
                            rw [hy] at ht
                            injection ht with ht
                            subst ht
                            exact he
                          · exact HJ.out j' t (by omega) ht
                        clear hy he
                        go_wp2_with fail
                        go_quiet (fail)
                        go_wp2
                        go_roundw
                        case rel => exact ⟨j + 1, q + nq, by go_num, by omega, HQ.out nq, HJ2⟩
                        case measure => simp only [intOf]; omega
                    · have HA := Lib.hid (any_miss (ss := ss) (i := k) (t := x.nm) (fun j' t hj' ht => HJ.out j' t (by omega) ht))
                      generalize W1.drewN q = wq at *
                      have HP1 := Lib.hid (Bo.rgood_is x.t rfl)
                      have HP2 := Lib.hid (Bo.rgood_is x.u rfl)
                      by_cases h1 : x.tm < 1 ∨ 1099511627776 < x.tm ∨ x.pr < 0 ∨ 255 < x.pr
                      · have HG := Lib.hid (HF.out 1 (stepE_1 HNm.out HA.out h1) (by decide))
                        by_cases t1 : x.tm < 1
                        · clear h1
                          go_wp2
                          go_ret2
                          exact ⟨_, _, rfl, HG.out, hwb.out.trans (HV.out.mono (by omega))⟩
                        · by_cases t2 : 1099511627776 < x.tm
                          · clear h1
                            go_wp2
                            go_ret2
                            exact ⟨_, _, rfl, HG.out, hwb.out.trans (HV.out.mono (by omega))⟩
                          · by_cases t3 : x.pr < 0
                            · clear h1
                              go_wp2
                              go_ret2
                              exact ⟨_, _, rfl, HG.out, hwb.out.trans (HV.out.mono (by omega))⟩
                            · have t4 : 255 < x.pr := by omega
                              clear h1
                              go_wp2
                              go_ret2
                              exact ⟨_, _, rfl, HG.out, hwb.out.trans (HV.out.mono (by omega))⟩
                      · have H1 := Lib.hid h1
                        have t1 : ¬ x.tm < 1 := by omega
                        have t2 : ¬ 1099511627776 < x.tm := by omega
                        have t3 : ¬ x.pr < 0 := by omega
                        have t4 : ¬ 255 < x.pr := by omega
                        clear h1
                        cases p1 : x.t.goodB with
                        | false =>
                          rw [p1] at HP1
                          have HG := Lib.hid (HF.out 3 (stepE_3 HNm.out HA.out H1.out (.inl (of_decide_eq_false p1))) (by decide))
                          clear p1
                          go_wp2_with (first | (go_at_call 38; (with_reducible refine (HP1.out _).mono ?_); rintro e w5 ⟨rfl, hm⟩; have HQ1 := Lib.hid (HS1.out.below hm.below HS1.out.lt); have HV1 := Lib.hid (HV.out.trans (hm.below.mono (by have := HV.out.size; omega))); obtain ⟨c0, c1, c2, c3, c4, c5, c6, c7, c8, c9, c10, c11⟩ := scells (s := x) HQ1.out; clear hm) | (go_at_call 38; (with_reducible refine (HP2.out _).mono ?_); rintro e w6 ⟨rfl, hm⟩; have HV2 := Lib.hid (HV1.out.trans (hm.below.mono (by have := HV1.out.size; omega))); clear hm))
                          go_ret2
                          exact ⟨_, _, rfl, HG.out, hwb.out.trans (HV1.out.mono (by omega))⟩
                        | true =>
                          rw [p1] at HP1
                          cases p2 : x.u.goodB with
                          | false =>
                            rw [p2] at HP2
                            have HG := Lib.hid (HF.out 3 (stepE_3 HNm.out HA.out H1.out (.inr (of_decide_eq_false p2))) (by decide))
                            clear p1 p2
                            go_wp2_with (first | (go_at_call 38; (with_reducible refine (HP1.out _).mono ?_); rintro e w5 ⟨rfl, hm⟩; have HQ1 := Lib.hid (HS1.out.below hm.below HS1.out.lt); have HV1 := Lib.hid (HV.out.trans (hm.below.mono (by have := HV.out.size; omega))); obtain ⟨c0, c1, c2, c3, c4, c5, c6, c7, c8, c9, c10, c11⟩ := scells (s := x) HQ1.out; clear hm) | (go_at_call 38; (with_reducible refine (HP2.out _).mono ?_); rintro e w6 ⟨rfl, hm⟩; have HV2 := Lib.hid (HV1.out.trans (hm.below.mono (by have := HV1.out.size; omega))); clear hm))
                            go_ret2
                            exact ⟨_, _, rfl, HG.out, hwb.out.trans (HV2.out.mono (by omega))⟩
                          | true =>
                            rw [p2] at HP2
                            have HI2 : Hid (∀ (j : Nat) (t : Stp), j < k + 1 → ss[j]? = some t → stepE ss j t = 0) := Lib.hid fun j' t hj' ht => by
                              by_cases e : j' = k
                              · subst e
                                rw [HX.out] at ht
                                injection ht with ht
                                subst ht
                                exact stepE_0 HNm.out HA.out H1.out (by rintro (h | h) <;> first | exact h (of_decide_eq_true p1) | exact h (of_decide_eq_true p2))
                              · exact HI.out j' t (by omega) ht
                            clear p1 p2
                            go_wp2_with (first | (go_at_call 38; (with_reducible refine (HP1.out _).mono ?_); rintro e w5 ⟨rfl, hm⟩; have HQ1 := Lib.hid (HS1.out.below hm.below HS1.out.lt); have HV1 := Lib.hid (HV.out.trans (hm.below.mono (by have := HV.out.size; omega))); obtain ⟨c0, c1, c2, c3, c4, c5, c6, c7, c8, c9, c10, c11⟩ := scells (s := x) HQ1.out; clear hm) | (go_at_call 38; (with_reducible refine (HP2.out _).mono ?_); rintro e w6 ⟨rfl, hm⟩; have HV2 := Lib.hid (HV1.out.trans (hm.below.mono (by have := HV1.out.size; omega))); clear hm))
                            go_roundw
                            case rel => exact ⟨k + 1, by go_num, by omega, HV2, HI2⟩
                            case measure => simp only [intOf]; omega
            · have HG := Lib.hid (HE.out (-1) 0 (.inr ⟨rfl, rfl, fun j t ht => HI.out j t (by have := at_lt ht; have := HN.out; omega) ht⟩))
              go_wp2
              go_ret2
              exact ⟨_, _, rfl, HG.out, hwb.out.trans (HW.out.mono (by omega))⟩
end Go.Proofs.Ytihkadbcjeohjaa.Df

namespace Go.Proofs.Ytihkadbcjeohjaa.Co
open Go.RowKit
open Go.Proofs.Ytihkadbcjeohjaa.El
open Go.Proofs.Ytihkadbcjeohjaa.Df
open Go.Proofs.Ytihkadbcjeohjaa.Bo (P Made ret_int ret_bool)
open Go.Proofs.Ytihkadbcjeohjaa.Sa (Sg Rp)

set_option maxHeartbeats 8000000 in
set_option maxRecDepth 100000 in
theorem readDef_s (B : ByteArray) (w : World) (hB : B.size ≤ 1099511627776) : Calls Try.prog 12 #[.string B] w (DfTo w (defA B.data.toList)) := by
  have hk := Ok.zero hB
  have HO0 := Lib.hid (Box.new w 24 #[.string ⟨#[]⟩, .int .i64 0, .slice none 0 0])
  have HB0 := Lib.hid ((Below.refl w.heap.size w).alloc (Nat.le_refl _) (.cells #[.string ⟨#[]⟩, .int .i64 0, .slice none 0 0] 24))
  have hz0 : (w.alloc (.cells #[.string ⟨#[]⟩, .int .i64 0, .slice none 0 0] 24)).heap.size = w.heap.size + 1 := by simp
  obtain ⟨dn, hdn⟩ : ∃ d, d = defNm B.data.toList := ⟨_, rfl⟩
  obtain ⟨dl, hdl⟩ : ∃ d, d = defDl B.data.toList := ⟨_, rfl⟩
  obtain ⟨ss, hss⟩ : ∃ d, d = defL B.data.toList := ⟨_, rfl⟩
  obtain ⟨s4, hs4⟩ : ∃ d, d = defS B.data.toList zeroP := ⟨_, rfl⟩
  obtain ⟨N, hN⟩ : ∃ d, d = defN B.data.toList zeroP := ⟨_, rfl⟩
  obtain ⟨T, hT⟩ : ∃ T, T = defE B.data.toList := ⟨_, rfl⟩
  have hlen : N = ss.length := by rw [hN, hss]; unfold defL defSs; rw [stepsQ_len]
  have hok4 : Ok B s4 := by rw [hs4]; unfold defS defC; exact Ok.steps _ hk.txt.num.cnt
  have HTe : Hid (∀ n S y W, Calls Try.prog 36 #[.agg #[.string B, .int .i64 ((s4).p : Nat), .int .i64 ((s4).e : Nat), .int .i64 ((s4).o : Nat), .int .i64 n, .string S, .bool y]] W fun e w2 => e = .returned (.agg #[.string B, .int .i64 ((T).p : Nat), .int .i64 ((T).e : Nat), .int .i64 ((T).o : Nat), .int .i64 n, .string S, .bool y]) ∧ Below W.heap.size W w2) := Lib.hid fun n S y W => by rw [show T = endS B.data.toList s4 by rw [hT, hs4]; rfl]; exact endR_s B s4 n S y W hok4
  have HF : Hid (∀ (A : Option Addr) (n c : Nat) (e : Ending) (w' : World), n = ss.length → n ≤ c → Df.Steps w' w'.heap.size A ss → Below w.heap.size w w' → e = .returned (takenV T (rightB dn dl ss) (.agg #[.string ⟨#[]⟩, .int .i64 0, .slice none 0 0]) (.agg #[.string dn, .int .i64 dl, .slice A n c])) → DfTo w (defA B.data.toList) e w') := Lib.hid fun A n c e w' h1 h2 h3 h4 h5 => dfTo_of hT.symm hdn.symm hdl.symm hss.symm h1 h2 h3 h4 h5
  have HMo : Hid (Mod dn ss) := Lib.hid (by rw [hdn, hss]; exact mod_taken B.data.toList)
  have HDf : Hid (∀ W, Calls Try.prog 35 #[.agg #[.string B, .int .i64 0, .int .i64 0, .int .i64 0, .int .i64 0, .string ⟨#[]⟩, .bool false]] W fun e w2 => ∃ n1 S1 y1 A n c, e = .returned (.tuple #[.agg #[.string B, .int .i64 ((s4).p : Nat), .int .i64 ((s4).e : Nat), .int .i64 ((s4).o : Nat), .int .i64 n1, .string S1, .bool y1], .agg #[.string dn, .int .i64 dl, .slice A n c]]) ∧ Below W.heap.size W w2 ∧ w2.ownsRow W.heap.size 67 12 (.slice A n c) n (cellsS ss)) := Lib.hid fun W => by
    refine (takeDef_s B zeroP 0 ⟨#[]⟩ false W hk).mono ?_
    rintro e w2 ⟨n1, S1, y1, A, c, rfl, h1, h2⟩
    rw [hdn, hdl, hs4, hss]
    exact ⟨n1, S1, y1, A, _, c, rfl, h1, h2⟩
  have HCk : Hid (∀ A n c W, n = ss.length → Df.Steps W W.heap.size A ss → Calls Try.prog 14 #[.agg #[.string dn, .int .i64 dl, .slice A n c]] W (ChkPost dn dl ss W)) := Lib.hid fun A n c W hn hS => rcheck_any dn dl A c ss n W hn (by have := HMo.out.2.1; omega) hS (by have := HMo.out.1; omega) (fun s hs => by have := HMo.out.2.2 s hs; omega)
  clear hk hdn hdl hss hs4 hT hN hok4 hlen
  go_enter Try.func12, Try.ntmps12
  go_wp2_with fail
  generalize w.alloc (.cells #[.string ⟨#[]⟩, .int .i64 0, .slice none 0 0] 24) = W0 at *
  refine (HDf.out _).mono ?_
  rintro e w1 ⟨n1, S1, y1, A, n, c, rfl, hb, ho⟩
  have hbw := HB0.out.trans (hb.mono HB0.out.size)
  have hzw : w.heap.size < w1.heap.size := by have := hb.size; omega
  have HO1 := Lib.hid (((HO0.out.below hb HO0.out.lt).alloc (.cells #[.string B, .int .i64 ((s4).p : Nat), .int .i64 ((s4).e : Nat), .int .i64 ((s4).o : Nat), .int .i64 n1, .string S1, .bool y1] 85)).alloc (.cells #[.string dn, .int .i64 dl, .slice A n c] 24))
  have HB1 := Lib.hid ((hbw.alloc hbw.size (.cells #[.string B, .int .i64 ((s4).p : Nat), .int .i64 ((s4).e : Nat), .int .i64 ((s4).o : Nat), .int .i64 n1, .string S1, .bool y1] 85)).alloc (by have := hbw.size; simp; omega) (.cells #[.string dn, .int .i64 dl, .slice A n c] 24))
  have HS1 := Lib.hid ((Box.new w1 85 #[.string B, .int .i64 ((s4).p : Nat), .int .i64 ((s4).e : Nat), .int .i64 ((s4).o : Nat), .int .i64 n1, .string S1, .bool y1]).alloc (.cells #[.string dn, .int .i64 dl, .slice A n c] 24))
  have HX1 := Lib.hid (box_new2 w1 (.cells #[.string B, .int .i64 ((s4).p : Nat), .int .i64 ((s4).e : Nat), .int .i64 ((s4).o : Nat), .int .i64 n1, .string S1, .bool y1] 85) 24 #[.string dn, .int .i64 dl, .slice A n c])
  have HR1 := Lib.hid (((own_lower ho HB0.out.size).alloc (.cells #[.string B, .int .i64 ((s4).p : Nat), .int .i64 ((s4).e : Nat), .int .i64 ((s4).o : Nat), .int .i64 n1, .string S1, .bool y1] 85)).alloc (.cells #[.string dn, .int .i64 dl, .slice A n c] 24))
  clear hb hbw ho HO0 HB0 HDf
  go_upto_region 2 with fail
  generalize (w1.alloc (.cells #[.string B, .int .i64 ((s4).p : Nat), .int .i64 ((s4).e : Nat), .int .i64 ((s4).o : Nat), .int .i64 n1, .string S1, .bool y1] 85)).alloc (.cells #[.string dn, .int .i64 dl, .slice A n c] 24) = W1 at *
  obtain ⟨e0, e1, e2, e3, e4, e5, e6⟩ := stcell (s := s4) HS1.out
  go_wp2_with fail
  clear e0 e1 e2 e3 e4 e5 e6
  refine (HTe.out _ _ _ _).mono ?_
  rintro e w2 ⟨rfl, hb⟩
  have HSz := Lib.hid (HS1.out.below hb HS1.out.lt)
  have HOz := Lib.hid (box_off (HO1.out.below hb HO1.out.lt) (show w.heap.size ≠ w1.heap.size by omega) #[.string B, .int .i64 ((T).p : Nat), .int .i64 ((T).e : Nat), .int .i64 ((T).o : Nat), .int .i64 n1, .string S1, .bool y1])
  have HXz := Lib.hid (box_off (HX1.out.below hb HX1.out.lt) (show w1.heap.size + 1 ≠ w1.heap.size by omega) #[.string B, .int .i64 ((T).p : Nat), .int .i64 ((T).e : Nat), .int .i64 ((T).o : Nat), .int .i64 n1, .string S1, .bool y1])
  have HSt := Lib.hid (box_set HSz.out #[.string B, .int .i64 ((T).p : Nat), .int .i64 ((T).e : Nat), .int .i64 ((T).o : Nat), .int .i64 n1, .string S1, .bool y1])
  have HBz := Lib.hid (below_putRow (HB1.out.trans (hb.mono HB1.out.size)) (show w.heap.size ≤ w1.heap.size by omega) #[.string B, .int .i64 ((T).p : Nat), .int .i64 ((T).e : Nat), .int .i64 ((T).o : Nat), .int .i64 n1, .string S1, .bool y1])
  have HRz : Hid ((w2.setRow w1.heap.size #[.string B, .int .i64 ((T).p : Nat), .int .i64 ((T).e : Nat), .int .i64 ((T).o : Nat), .int .i64 n1, .string S1, .bool y1]).ownsRow w.heap.size 67 12 (.slice A n c) n (cellsS ss)) := Lib.hid (by
    have h2 := HR1.out.kept (grown_call (World.grownBy.refl W1 (some w1.heap.size)) hb) (.inr (own_far HR1.out HS1.out (by decide)))
    exact h2.kept (setRow_grown w2 w1.heap.size #[.string B, .int .i64 ((T).p : Nat), .int .i64 ((T).e : Nat), .int .i64 ((T).o : Nat), .int .i64 n1, .string S1, .bool y1]) (.inr (own_far h2 HSz.out (by decide))))
  clear hb HS1 HO1 HX1 HB1 HR1 HTe
  have hlen : Hid (n = ss.length) := Lib.hid (by
    have := HRz.out.1
    rw [cellsS_len] at this
    omega)
  have hcap : n ≤ c := by
    rcases HRz.out.2 with ⟨h1, h0⟩ | ⟨g, cap, cur, h1, _, _, hc, _⟩
    · injection h1 with _ h2 h3; omega
    · injection h1 with _ h2 h3; omega
  by_cases hE : T.e = 0
  · have hz : ((T.e : Int) != 0) = false := by simp [hE]
    have HE := Lib.hid hE
    clear hE
    go_wp2_with (first
      | (refine wpList_store_row rfl 85 (.tmp 5) (.tmp 16) rfl (w1.heap.size) 85 _ #[.string B, .int .i64 ((T).p : Nat), .int .i64 ((T).e : Nat), .int .i64 ((T).o : Nat), .int .i64 n1, .string S1, .bool y1] rfl rfl HSz.out (size_st _ _ _ _ _ _ _) rfl (by simp [Value.oneCell']) ?_; generalize w2.setRow (w1.heap.size) #[.string B, .int .i64 ((T).p : Nat), .int .i64 ((T).e : Nat), .int .i64 ((T).o : Nat), .int .i64 n1, .string S1, .bool y1] = u at *; obtain ⟨e0, e1, e2, e3, e4, e5, e6⟩ := stcell (s := T) HSt.out)
      | (refine wpList_load_row rfl 24 (.tmp 6) rfl (w1.heap.size + 1) 24 #[.string dn, .int .i64 dl, .slice A n c] _ rfl HXz.out Try.underlying24 rfl (by show (Try.prog.info? 24).map (·.size) = some 3; kernel_rfl) ?_))
    refine (HCk.out A n c _ hlen.out (steps_own HRz.out)).mono ?_
    rintro e w3 ⟨k', ev, rfl, hck, hb⟩
    have HK := Lib.hid (chk_right hck)
    have HX3 := Lib.hid (HXz.out.below hb HXz.out.lt)
    have HO3 := Lib.hid (HOz.out.below hb HOz.out.lt)
    have HB3 := Lib.hid (HBz.out.trans (hb.mono HBz.out.size))
    have HR3 := Lib.hid (HRz.out.kept (grown_call (World.grownBy.refl u (some w1.heap.size)) hb) (.inr (own_far HRz.out HSt.out (by decide))))
    clear hb hck HXz HOz HBz HRz HSt HSz HCk
    by_cases hev : ev = 0
    · have hz2 : (ev != 0) = false := by simp [hev]
      have hr : rightB dn dl ss = true := by rw [HK.out]; exact decide_eq_true hev
      have HR := Lib.hid hr
      clear hr hev HK
      go_wp2_with (first
        | (refine wpList_load_row rfl 24 (.tmp 6) rfl (w1.heap.size + 1) 24 #[.string dn, .int .i64 dl, .slice A n c] _ rfl HX3.out Try.underlying24 rfl (by show (Try.prog.info? 24).map (·.size) = some 3; kernel_rfl) ?_)
        | (refine wpList_store_row rfl 24 (.tmp 2) (.tmp 33) rfl (w.heap.size) 24 _ #[.string dn, .int .i64 dl, .slice A n c] rfl rfl HO3.out (by show (Try.prog.info? 24).map (·.size) = some 3; kernel_rfl) rfl (by simp [Value.oneCell']) ?_))
      refine bodyPost_ret (res_ctt rfl _ _ (w.heap.size) #[.string dn, .int .i64 dl, .slice A n c] Try.underlying24 (by show (Try.prog.info? 24).map (·.size) = some 3; kernel_rfl) rfl (box_set HO3.out _)) rfl (HF.out A n c _ _ hlen.out hcap ?_ ?_ (by rw [HR.out, takenV_yes HE.out]; rfl))
      · exact steps_own (HR3.out.kept (setRow_grown w3 w.heap.size #[.string dn, .int .i64 dl, .slice A n c]) (.inr (own_far HR3.out HO3.out (by decide))))
      · exact below_putRow HB3.out (Nat.le_refl _) _
    · have hz2 : (ev != 0) = true := by simpa using hev
      have hr : rightB dn dl ss = false := by rw [HK.out]; exact decide_eq_false hev
      have HR := Lib.hid hr
      clear hr hev HK
      go_wp2_with (refine wpList_store_row rfl 24 (.tmp 2) (.tmp 32) rfl (w.heap.size) 24 _ #[.string ⟨#[]⟩, .int .i64 0, .slice none 0 0] rfl rfl HO3.out (by show (Try.prog.info? 24).map (·.size) = some 3; kernel_rfl) rfl (by simp [Value.oneCell']) ?_)
      refine bodyPost_ret (res_ctt rfl _ _ (w.heap.size) #[.string ⟨#[]⟩, .int .i64 0, .slice none 0 0] Try.underlying24 (by show (Try.prog.info? 24).map (·.size) = some 3; kernel_rfl) rfl (box_set HO3.out _)) rfl (HF.out A n c _ _ hlen.out hcap ?_ ?_ (by rw [HR.out, takenV_no HE.out]; rfl))
      · exact steps_own (HR3.out.kept (setRow_grown w3 w.heap.size #[.string ⟨#[]⟩, .int .i64 0, .slice none 0 0]) (.inr (own_far HR3.out HO3.out (by decide))))
      · exact below_putRow HB3.out (Nat.le_refl _) _
  · have hz : ((T.e : Int) != 0) = true := by simpa using hE
    have HE := Lib.hid hE
    clear hE
    go_wp2_with (refine wpList_store_row rfl 85 (.tmp 5) (.tmp 16) rfl (w1.heap.size) 85 _ #[.string B, .int .i64 ((T).p : Nat), .int .i64 ((T).e : Nat), .int .i64 ((T).o : Nat), .int .i64 n1, .string S1, .bool y1] rfl rfl HSz.out (size_st _ _ _ _ _ _ _) rfl (by simp [Value.oneCell']) ?_; generalize w2.setRow (w1.heap.size) #[.string B, .int .i64 ((T).p : Nat), .int .i64 ((T).e : Nat), .int .i64 ((T).o : Nat), .int .i64 n1, .string S1, .bool y1] = u at *; obtain ⟨e0, e1, e2, e3, e4, e5, e6⟩ := stcell (s := T) HSt.out)
    have z2 : ∀ v, Box v (w1.heap.size) 85 #[.string B, .int .i64 ((T).p : Nat), .int .i64 ((T).e : Nat), .int .i64 ((T).o : Nat), .int .i64 n1, .string S1, .bool y1] → v.cell? ⟨w1.heap.size, 2, none⟩ = some (.int .i64 (T.e : Nat)) := fun v h => h.cell 2
    have z3 : ∀ v, Box v (w1.heap.size) 85 #[.string B, .int .i64 ((T).p : Nat), .int .i64 ((T).e : Nat), .int .i64 ((T).o : Nat), .int .i64 n1, .string S1, .bool y1] → v.cell? ⟨w1.heap.size, 3, none⟩ = some (.int .i64 (T.o : Nat)) := fun v h => h.cell 3
    refine wp_region_held_drew (S := fun v => Box v (w1.heap.size) 85 #[.string B, .int .i64 ((T).p : Nat), .int .i64 ((T).e : Nat), .int .i64 ((T).o : Nat), .int .i64 n1, .string S1, .bool y1]) (by kernel_rfl) (HSt.out.drewN 1) (fun hHeld => ?_)
    refine wpAnyH_take (i := 0) (oi := ⟨some 20, _, _, _, _, _⟩) (v := ?_) rfl (by kernel_rfl) (by kernel_rfl) (by kernel_rfl) (fun _ _ _ h => h) (Or.inl ⟨by rfl, ?_⟩) (by assumption) ?_
    rotate_left
    · (intro u hu; (try dsimp only at hu); go_simp; (try with_reducible rfl))
    (try simp only [Act.put, List.setIfInBounds_toArray, List.set_cons_zero, List.set_cons_succ])
    refine wpAnyH_take (i := 1) (oi := ⟨some 21, _, _, _, _, _⟩) (v := ?_) rfl (by kernel_rfl) (by kernel_rfl) (by kernel_rfl) (fun _ _ _ h => h) (Or.inl ⟨by rfl, ?_⟩) (by assumption) ?_
    rotate_left
    · (intro u hu; (try dsimp only at hu); go_simp; (try with_reducible rfl))
    (try simp only [Act.put, List.setIfInBounds_toArray, List.set_cons_zero, List.set_cons_succ])
    refine wpAnyH_take (i := 2) (oi := ⟨some 22, _, _, _, _, _⟩) (v := ?_) rfl (by kernel_rfl) (by kernel_rfl) (by kernel_rfl) (fun _ _ _ h => h) (Or.inl ⟨by rfl, ?_⟩) (by assumption) ?_
    rotate_left
    · (intro u hu; (try dsimp only at hu); go_simp; (try with_reducible rfl))
    (try simp only [Act.put, List.setIfInBounds_toArray, List.set_cons_zero, List.set_cons_succ])
    refine wpAnyH_take (i := 3) (oi := ⟨some 23, _, _, _, _, _⟩) (v := ?_) rfl (by kernel_rfl) (by kernel_rfl) (by kernel_rfl) (fun _ _ _ h => h) (Or.inl ⟨by rfl, ?_⟩) (by assumption) ?_
    rotate_left
    · (intro u hu; (try dsimp only at hu); go_simp; (try with_reducible rfl))
    (try simp only [Act.put, List.setIfInBounds_toArray, List.set_cons_zero, List.set_cons_succ])
    refine wpAnyH_take (i := 4) (oi := ⟨some 24, _, _, _, _, _⟩) (v := ?_) rfl (by kernel_rfl) (by kernel_rfl) (by kernel_rfl) (fun _ _ _ h => h) (Or.inl ⟨by rfl, ?_⟩) (by assumption) ?_
    rotate_left
    · (intro u hu; (try dsimp only at hu); go_simp; (try with_reducible rfl))
    (try simp only [Act.put, List.setIfInBounds_toArray, List.set_cons_zero, List.set_cons_succ])
    refine wpAnyH_ready (rs := [5]) (by decide +kernel) (by simp) ?_
    refine AllReadyH.cons (o := ⟨none, _, _, _, _, _⟩) rfl (fun K hK => ?_) AllReadyH.nil
    rw [if_pos (by rfl)]
    refine oper_store 24 _ _ rfl (w.heap.size) 24 _ #[.string ⟨#[]⟩, .int .i64 0, .slice none 0 0] rfl rfl (HOz.out.drewN 1) (by show (Try.prog.info? 24).map (·.size) = some 3; kernel_rfl) rfl (by simp [Value.oneCell']) ?_
    have hA := Lib.hid (box_off (HSt.out.drewN 1) (show w1.heap.size ≠ w.heap.size by omega) #[.string ⟨#[]⟩, .int .i64 0, .slice none 0 0])
    refine hK.out _ _ ?_ (fun hHeld => ?_)
    · exact hA.out
    clear hK K
    (try simp only [Act.put])
    refine wpAnyH_take (i := 6) (oi := ⟨some 3, _, _, _, _, _⟩) (v := ?_) rfl (by kernel_rfl) (by kernel_rfl) (by kernel_rfl) (fun _ _ _ h => h) (Or.inl ⟨by rfl, ?_⟩) (by assumption) ?_
    rotate_left
    · (intro u hu; (try dsimp only at hu); go_simp; (try with_reducible rfl))
    (try simp only [Act.put, List.setIfInBounds_toArray, List.set_cons_zero, List.set_cons_succ])
    refine wpAnyH_take (i := 7) (oi := ⟨some 4, _, _, _, _, _⟩) (v := ?_) rfl (by kernel_rfl) (by kernel_rfl) (by kernel_rfl) (fun _ _ _ h => h) (Or.inl ⟨by rfl, ?_⟩) (by assumption) ?_
    rotate_left
    · (intro u hu; (try dsimp only at hu); go_simp; (try with_reducible rfl))
    (try simp only [Act.put, List.setIfInBounds_toArray, List.set_cons_zero, List.set_cons_succ])
    refine wpAnyH_done (by kernel_rfl) ?_ _
    clear z2 z3
    go_wp2_with fail
    have hu : (u.drewN 1).ownsRow w.heap.size 67 12 (.slice A n c) n (cellsS ss) := HRz.out
    refine bodyPost_ret (res_ctt rfl _ _ (w.heap.size) #[.string ⟨#[]⟩, .int .i64 0, .slice none 0 0] Try.underlying24 (by show (Try.prog.info? 24).map (·.size) = some 3; kernel_rfl) rfl (box_set (HOz.out.drewN 1) _)) rfl (HF.out A n c _ _ hlen.out hcap ?_ ?_ (by rw [takenV_err HE.out]; rfl))
    · exact steps_own (hu.kept (setRow_grown _ w.heap.size #[.string ⟨#[]⟩, .int .i64 0, .slice none 0 0]) (.inr (own_far hu (HOz.out.drewN 1) (by decide))))
    · exact below_putRow (Below.drew HBz.out) (Nat.le_refl _) _
end Go.Proofs.Ytihkadbcjeohjaa.Co

namespace Go.Proofs.Ytihkadbcjeohjaa.Co
open Go.ChangeShapes Go.WideShapes Go.ChangeAt Go.RowKit
open Go.Proofs.Ytihkadbcjeohjaa.El
open Go.Proofs.Ytihkadbcjeohjaa.Df
open Go.Proofs.Ytihkadbcjeohjaa.Bo (P Made ret_int ret_bool)
open Go.Proofs.Ytihkadbcjeohjaa.Sa (Sg Rp)

theorem cellsRp : Try.prog.cellsOf 49 = 5 := by kernel_rfl
theorem cellsEv : Try.prog.cellsOf 51 = 12 := by kernel_rfl
theorem u16_wf {x : Int} (h : (Lit.int .u16 x).wf = true) : 0 ≤ x ∧ x ≤ 65535 := by
  have h1 : IntKind.u16.min = 0 := rfl
  have h2 : IntKind.u16.max = 65535 := rfl
  simp only [Lit.wf, Bool.and_eq_true, decide_eq_true_eq] at h
  omega
section
variable {H : Type} {enc : TypeId × Value → H} {W : World}
set_option maxRecDepth 100000 in
theorem open_reply (fuel : Nat) (cs : List Value) (x : DataW H × List MemPlace) (h : DataW.trod enc Try.prog W 0 (fun _ => true) true fuel 49 cs = some x) (hl : cs.length = 5) : ∃ r : Rp, cs = [.int .i64 r.sg, .int .i64 r.sp, .bool r.un, .int .i64 r.tr, .bool r.good] := by
  obtain ⟨ys, n', _, _, _, hyl, hfld⟩ := DataW.trod_struct Try.underlying49 h
  simp only [List.size_toArray, List.length_cons, List.length_nil, Nat.reduceAdd] at hyl
  have e0 : DataW.trod enc Try.prog W 0 (fun _ => true) true n' 3 ((cs.drop 0).take (Try.prog.cellsOf 3)) = ys[0]? := hfld 0 _ rfl
  have e1 : DataW.trod enc Try.prog W 0 (fun _ => true) true n' 3 ((cs.drop 1).take (Try.prog.cellsOf 3)) = ys[1]? := hfld 1 _ rfl
  have e2 : DataW.trod enc Try.prog W 0 (fun _ => true) true n' 4 ((cs.drop 2).take (Try.prog.cellsOf 4)) = ys[2]? := hfld 2 _ rfl
  have e3 : DataW.trod enc Try.prog W 0 (fun _ => true) true n' 3 ((cs.drop 3).take (Try.prog.cellsOf 3)) = ys[3]? := hfld 3 _ rfl
  have e4 : DataW.trod enc Try.prog W 0 (fun _ => true) true n' 4 ((cs.drop 4).take (Try.prog.cellsOf 4)) = ys[4]? := hfld 4 _ rfl
  match cs, hl, ys, hyl with
  | [c0, c1, c2, c3, c4], _, [y0, y1, y2, y3, y4], _ =>
    simp only [cellsI, cellsBo, List.drop_zero, List.drop_succ_cons, List.take_succ_cons, List.take_zero, List.getElem?_cons_zero, List.getElem?_cons_succ] at e0 e1 e2 e3 e4
    obtain ⟨x0, q0, _, _⟩ := DataW.trod_int Try.underlying3 e0
    obtain ⟨x1, q1, _, _⟩ := DataW.trod_int Try.underlying3 e1
    obtain ⟨x2, q2, _⟩ := DataW.trod_bool Try.underlying4 e2
    obtain ⟨x3, q3, _, _⟩ := DataW.trod_int Try.underlying3 e3
    obtain ⟨x4, q4, _⟩ := DataW.trod_bool Try.underlying4 e4
    simp only [List.cons.injEq, and_true] at q0 q1 q2 q3 q4
    subst q0 q1 q2 q3 q4
    exact ⟨⟨x0, x1, x2, x3, x4⟩, rfl⟩
set_option maxRecDepth 100000 in
theorem open_def (fuel : Nat) (cs : List Value) (x : DataW H × List MemPlace) (h : DataW.trod enc Try.prog W 0 (fun _ => true) true fuel 24 cs = some x) (hl : cs.length = 3) :
    ∃ (nm : ByteArray) (dl : Int) (A : Option Addr) (c : Nat) (ss : List Stp), cs = [.string nm, .int .i64 dl, .slice A ss.length c] ∧ nm.size ≤ 9223372036854775807 ∧ ss.length ≤ 9223372036854775807 ∧ ss.length ≤ c ∧ (∀ s ∈ ss, s.Fits) ∧ Df.Steps W W.heap.size A ss := by
  match cs, hl with
  | [c0, c1, c2], _ =>
  obtain ⟨d, pl⟩ := x
  obtain ⟨y0, y1, y2, m, hx, _, hy0, hy1, hy2⟩ := Deep.trod_struct3 Try.underlying24 h
  obtain ⟨x0, e0, _, w0⟩ := DataW.trod_string Try.underlying9 hy0
  obtain ⟨x1, e1, _, w1⟩ := DataW.trod_int Try.underlying3 hy1
  obtain ⟨a0, len, cap, ss, e2, hn, hc, hm, hg, hE, hnil⟩ := els_of (⟨⟨#[]⟩, ⟨#[]⟩, 0, ⟨0, 0, 0, 0⟩, ⟨0, 0, 0, 0⟩, 0⟩ : Stp) Stp.cells Stp.Fits 12 (by omega) Try.underlying22 (by kernel_rfl) open_step hy2
  simp [cellsI, cellsStr, cellsSl] at e0 e1 e2
  subst e0 e1 e2 hn
  exact ⟨x0, x1, a0, cap, ss, rfl, by unfold maxLen at w0; exact by omega, hm, hc, hg, hE⟩
set_option maxRecDepth 100000 in
/-- an argument: an event by value -/
theorem arg_ev {r : Reach} {base : Nat} {v : Value} {d : DataW H} {pl : List MemPlace} (hv : Value.okWide Try.prog W r base 51 v)
    (h : DataW.Trod enc Try.prog W 0 (fun _ => true) true 51 v d pl) :
    ∃ (x : Ev) (A : Option Addr) (c : Nat), v = .agg #[.int .i64 x.k, .int .i64 x.now, .int .i64 x.sg, .string x.nm, .int .i64 x.r.sg, .int .i64 x.r.sp, .bool x.r.un, .int .i64 x.r.tr, .bool x.r.good, .string x.dn, .int .i64 x.dl, .slice A x.ss.length c] ∧
      (x.nm.size ≤ 9223372036854775807 ∧ x.dn.size ≤ 9223372036854775807) ∧ x.ss.length ≤ 9223372036854775807 ∧ x.ss.length ≤ c ∧ (∀ s ∈ x.ss, s.Fits) ∧ Df.Steps W W.heap.size A x.ss := by
  obtain ⟨cs, rfl, hsz⟩ := okWide_struct Try.underlying51 hv
  rw [cellsEv] at hsz
  obtain ⟨cs⟩ := cs
  obtain ⟨fuel, hf⟩ := h
  replace hf : DataW.trod enc Try.prog W 0 (fun _ => true) true fuel 51 cs = some (d, pl) := hf
  obtain ⟨ys, n', _, hx, _, hyl, hfld⟩ := DataW.trod_struct Try.underlying51 hf
  simp only [List.size_toArray, List.length_cons, List.length_nil, Nat.reduceAdd] at hyl
  have e0 : DataW.trod enc Try.prog W 0 (fun _ => true) true n' 3 ((cs.drop 0).take (Try.prog.cellsOf 3)) = ys[0]? := hfld 0 _ rfl
  have e1 : DataW.trod enc Try.prog W 0 (fun _ => true) true n' 3 ((cs.drop 1).take (Try.prog.cellsOf 3)) = ys[1]? := hfld 1 _ rfl
  have e2 : DataW.trod enc Try.prog W 0 (fun _ => true) true n' 3 ((cs.drop 2).take (Try.prog.cellsOf 3)) = ys[2]? := hfld 2 _ rfl
  have e3 : DataW.trod enc Try.prog W 0 (fun _ => true) true n' 9 ((cs.drop 3).take (Try.prog.cellsOf 9)) = ys[3]? := hfld 3 _ rfl
  have e4 : DataW.trod enc Try.prog W 0 (fun _ => true) true n' 49 ((cs.drop 4).take (Try.prog.cellsOf 49)) = ys[4]? := hfld 4 _ rfl
  have e5 : DataW.trod enc Try.prog W 0 (fun _ => true) true n' 24 ((cs.drop 9).take (Try.prog.cellsOf 24)) = ys[5]? := hfld 5 _ rfl
  match cs, hsz, ys, hyl with
  | [c0, c1, c2, c3, c4, c5, c6, c7, c8, c9, c10, c11], _, [y0, y1, y2, y3, y4, y5], _ =>
    simp only [cellsI, cellsStr, cellsRp, cellsD, List.drop_zero, List.drop_succ_cons, List.take_succ_cons, List.take_zero, List.getElem?_cons_zero, List.getElem?_cons_succ] at e0 e1 e2 e3 e4 e5
    obtain ⟨x0, q0, _, _⟩ := DataW.trod_int Try.underlying3 e0
    obtain ⟨x1, q1, _, _⟩ := DataW.trod_int Try.underlying3 e1
    obtain ⟨x2, q2, _, _⟩ := DataW.trod_int Try.underlying3 e2
    obtain ⟨x3, q3, _, w3⟩ := DataW.trod_string Try.underlying9 e3
    obtain ⟨x4, q4⟩ := open_reply _ _ _ e4 rfl
    obtain ⟨nm, dl, A, c, ss, q5, hz, hn, hc, hg, hE⟩ := open_def _ _ _ e5 rfl
    simp only [List.cons.injEq, and_true] at q0 q1 q2 q3 q4 q5
    obtain ⟨rfl, rfl, rfl, rfl, rfl⟩ := q4
    obtain ⟨rfl, rfl, rfl⟩ := q5
    subst q0 q1 q2 q3
    exact ⟨⟨x0, x1, x2, x3, x4, nm, dl, ss⟩, A, c, rfl, ⟨by unfold maxLen at w3; exact by omega, hz⟩, hn, hc, hg, hE⟩
end
end Go.Proofs.Ytihkadbcjeohjaa.Co

namespace Go.Proofs.Ytihkadbcjeohjaa.Df
open Go.RowKit
open Go.Proofs.Ytihkadbcjeohjaa.El
open Go.Proofs.Ytihkadbcjeohjaa.Bo (P Made ret_int ret_bool)

def okS (s : Stp) : Bool := decide (s.nm.size ≤ 100) && decide (s.pt.size ≤ 100)
def smallI (nm : ByteArray) (ss : List Stp) : Int := if 40 < ss.length ∨ 100 < nm.size then 1 else if ss.all okS = true then 0 else 2
theorem small_yes {nm : ByteArray} {ss : List Stp} (h : smallI nm ss = 0) : ss.length ≤ 40 ∧ nm.size ≤ 100 ∧ ∀ s ∈ ss, s.nm.size ≤ 100 ∧ s.pt.size ≤ 100 := by
  unfold smallI at h
  split at h
  · cases h
  · split at h
    · next h1 h2 =>
      refine ⟨by omega, by omega, fun s hs => ?_⟩
      have := List.all_eq_true.1 h2 s hs
      unfold okS at this
      simpa using this
    · cases h
theorem small_bad {nm : ByteArray} {ss : List Stp} (h : ¬ (40 < ss.length ∨ 100 < nm.size)) {k : Nat} {s : Stp} (hs : ss[k]? = some s) (hb : okS s = false) : smallI nm ss = 2 := by
  unfold smallI
  rw [if_neg h, if_neg]
  intro h2
  have := List.all_eq_true.1 h2 s (List.mem_of_getElem? hs)
  rw [hb] at this
  cases this
theorem small_end {nm : ByteArray} {ss : List Stp} (h : ¬ (40 < ss.length ∨ 100 < nm.size)) (hk : ∀ i s, i < ss.length → ss[i]? = some s → okS s = true) : smallI nm ss = 0 := by
  unfold smallI
  rw [if_neg h, if_pos]
  refine List.all_eq_true.2 fun s hs => ?_
  obtain ⟨i, hi⟩ := List.mem_iff_getElem?.1 hs
  exact hk i s (at_lt hi) hi
set_option maxHeartbeats 2000000 in
set_option maxRecDepth 100000 in
theorem small_any (nm : ByteArray) (dl : Int) (A : Option Addr) (c : Nat) (ss : List Stp) (n : Nat) (w : World) (hn : n = ss.length) (hb : n ≤ 9223372036854775807) (hnm : nm.size ≤ 9223372036854775807) (hfit : ∀ s ∈ ss, s.Fits) (hS : Steps w w.heap.size A ss) :
    Calls Try.prog 8 #[.agg #[.string nm, .int .i64 dl, .slice A n c]] w fun e w' => e = .returned (.int .i64 (smallI nm ss)) ∧ Made w w' := by
  by_cases h1 : 40 < n
  · have HR : Hid (smallI nm ss = 1) := Lib.hid (by unfold smallI; rw [if_pos (.inl (by omega))])
    clear hS hn hfit
    go_enter Try.func8, Try.ntmps8
    go_wp2
    go_ret
    exact ⟨ret_int HR.out.symm, Made.alloc _ _⟩
  by_cases h2 : 100 < nm.size
  · have HR : Hid (smallI nm ss = 1) := Lib.hid (by unfold smallI; rw [if_pos (.inr h2)])
    clear hS hn hfit
    go_enter Try.func8, Try.ntmps8
    go_wp2
    go_ret
    exact ⟨ret_int HR.out.symm, Made.alloc _ _⟩
  have HNo : Hid (¬ (40 < ss.length ∨ 100 < nm.size)) := Lib.hid (by omega)
  have HS := Lib.hid hS
  have HN := Lib.hid hn
  have HF := Lib.hid hfit
  clear hS hn hfit
  go_enter Try.func8, Try.ntmps8
  go_wp2
  have HM := Lib.hid (Made.alloc w (.cells #[.string nm, .int .i64 dl, .slice A n c] 24))
  have HB := Lib.hid (Box.new w 24 #[.string nm, .int .i64 dl, .slice A n c])
  generalize w.alloc (.cells #[.string nm, .int .i64 dl, .slice A n c] 24) = W0 at *
  have e2 : W0.cell? ⟨w.heap.size, 2, none⟩ = some (.slice A n c) := HB.out.cell 2
  go_loopw [3] (fun vi wr => ∃ k : Nat, vi = .int .i64 (k : Int) ∧ k ≤ n ∧ wr = W0 ∧ Hid (∀ i s, i < k → ss[i]? = some s → okS s = true)) (fun vi _ => n - (intOf vi).toNat)
  case atStart => exact ⟨0, rfl, Nat.zero_le _, rfl, Lib.hid fun i s hi => absurd hi (by omega)⟩
  case round =>
    obtain ⟨k, rfl, hk, rfl, HI⟩ := hrel
    by_cases hkn : k < n
    · obtain ⟨x, hx⟩ : ∃ x, ss[k]? = some x := ⟨_, List.getElem?_eq_getElem (by have := HN.out; omega)⟩
      obtain ⟨b, o, rfl, hbl⟩ := HS.out.at_ hx
      have HS0 := Lib.hid (HS.out.below HM.out.below)
      have c0 : wr.cell? ⟨b, o + k * 12, none⟩ = some (.string x.nm) := HS0.out.get hx 0 rfl
      have c1 : wr.cell? ⟨b, o + k * 12 + 1, none⟩ = some (.string x.pt) := HS0.out.get hx 1 rfl
      obtain ⟨hf1, hf2⟩ := HF.out x (List.mem_of_getElem? hx)
      have HX := Lib.hid hx
      clear hx
      by_cases hq1 : 100 < x.nm.size
      · have HR : Hid (smallI nm ss = 2) := Lib.hid (small_bad HNo.out HX.out (by unfold okS; rw [decide_eq_false (by omega)]; rfl))
        go_wp2
        go_ret
        exact ⟨ret_int HR.out.symm, HM.out⟩
      · by_cases hq2 : 100 < x.pt.size
        · have HR : Hid (smallI nm ss = 2) := Lib.hid (small_bad HNo.out HX.out (by unfold okS; rw [decide_eq_false (p := x.pt.size ≤ 100) (by omega)]; simp))
          go_wp2
          go_ret
          exact ⟨ret_int HR.out.symm, HM.out⟩
        · have HNx : Hid (∀ i s, i < k + 1 → ss[i]? = some s → okS s = true) := Lib.hid fun i s hi hs => by
            by_cases e : i = k
            · subst e
              rw [HX.out] at hs
              injection hs with hs
              subst hs
              unfold okS
              rw [decide_eq_true (by omega), decide_eq_true (by omega)]
              rfl
            · exact HI.out i s (by omega) hs
          go_wp2
          go_roundw
          case rel => exact ⟨k + 1, by go_num, by omega, trivial, HNx⟩
          case measure => simp [intOf]; omega
    · have HR : Hid (smallI nm ss = 0) := Lib.hid (small_end HNo.out fun i s hi hs => HI.out i s (by have := HN.out; omega) hs)
      go_wp2
      go_ret
      exact ⟨ret_int HR.out.symm, HM.out⟩
end Go.Proofs.Ytihkadbcjeohjaa.Df

namespace Go.Proofs.Ytihkadbcjeohjaa.codeDefs
open Go.Proofs.Ytihkadbcjeohjaa.Co
open Go.ChangeShapes Go.WideShapes Go.ChangeAt Go.RowKit
open Go.Proofs.Ytihkadbcjeohjaa.El
open Go.Proofs.Ytihkadbcjeohjaa.Df
open Go.Proofs.Ytihkadbcjeohjaa.Bo (P Made ret_int ret_bool)
open Go.Proofs.Ytihkadbcjeohjaa.Sa (Sg Rp)

theorem wpAnyH_mono {P : Program} {md : Region.Mode} {ops : Array Oper} {Q : Exit → Act → World → Prop} {S S' : World → Prop} (hS : ∀ w, S' w → S w) :
    ∀ (fuel : Nat) (listed : Array Bool) (a : Act) (w : World), wpAnyH P md ops Q S' fuel listed a w → wpAnyH P md ops Q S fuel listed a w
  | 0, _, _, _, h => h
  | fuel + 1, _, _, _, h => ⟨h.1, fun i hi => wpOp_mono (fun a' w' h' => ⟨hS _ h'.1, wpAnyH_mono hS fuel _ a' w' h'.2⟩) (h.2 i hi)⟩
theorem defA_zero {l : List UInt8} (h : (defA l).2.2 = 0) : l = defF (defA l).1.nm (defA l).1.dl (defA l).1.ss := by
  unfold defA at h ⊢
  by_cases h1 : (defE l).e = 0
  · rw [if_neg (show ¬ (defE l).e ≠ 0 from fun k => k h1)] at h ⊢
    cases h2 : rightB (defNm l) (defDl l) (defL l) with
    | false => rw [h2, if_pos rfl] at h; cases h
    | true => rw [if_neg (by decide)]; exact def_whole h1
  · rw [if_pos h1] at h
    exact absurd h h1
theorem mod_A (l : List UInt8) : Mod (defA l).1.nm (defA l).1.ss := by
  unfold defA
  split
  · exact ⟨by show (0 : Nat) ≤ 1000000; omega, by show (0 : Nat) ≤ 1000; omega, fun _ h => by cases h⟩
  · split
    · exact ⟨by show (0 : Nat) ≤ 1000000; omega, by show (0 : Nat) ≤ 1000; omega, fun _ h => by cases h⟩
    · exact mod_taken l
theorem defA_put {nm : ByteArray} {dl : Int} {ss : List Stp} (h : rightB nm dl ss = true) (h0 : nm.size ≤ 256) (hs : ∀ x ∈ ss, x.nm.size ≤ 256 ∧ x.pt.size ≤ 256) : defA (defF nm dl ss) = (⟨nm, dl, ss⟩, 0, 0) := by
  obtain ⟨h1, h2, h3, h4⟩ := def_put (dl := dl) h0 hs (right_parts h).2.2.1
  obtain ⟨k1, k2⟩ := right_cl h
  rw [k1] at h3
  rw [k2] at h4
  unfold defA
  rw [if_neg (show ¬ (defE (defF nm dl ss)).e ≠ 0 from fun k => k h1), h2, h3, h4, h, if_neg (by decide)]
theorem take_is (l : List UInt8) (hl : l.length ≤ 1099511627776) (A : Option Addr) (c : Nat) (W : World) (hb : Byt W W.heap.size A l) :
    Calls Try.prog 11 #[.slice A l.length c] W fun e w' => ∃ A n c, e = .returned (.tuple #[.agg #[.string (defA l).1.nm, .int .i64 (defA l).1.dl, .slice A n c], .int .i64 ((defA l).2.1 : Nat), .int .i64 ((defA l).2.2 : Nat)]) ∧ n = (defA l).1.ss.length ∧ n ≤ c ∧ Df.Steps w' w'.heap.size A (defA l).1.ss ∧ Below W.heap.size W w' := takeDef_any A l c W hb hl
theorem read_is (l : List UInt8) (hl : l.length ≤ 1099511627776) (W : World) :
    Calls Try.prog 12 #[.string (sb l)] W fun e w' => ∃ A n c, e = .returned (.tuple #[.agg #[.string (defA l).1.nm, .int .i64 (defA l).1.dl, .slice A n c], .int .i64 ((defA l).2.1 : Nat), .int .i64 ((defA l).2.2 : Nat)]) ∧ n = (defA l).1.ss.length ∧ n ≤ c ∧ Df.Steps w' w'.heap.size A (defA l).1.ss ∧ Below W.heap.size W w' := readDef_s (sb l) W (by rw [sb_size]; exact hl)
theorem same_yes (nm : ByteArray) (dl : Int) (ss : List Stp) : sameB nm nm dl dl ss ss = true := by unfold sameB; simp
set_option maxHeartbeats 16000000 in
set_option maxRecDepth 100000 in
theorem walk (nm : ByteArray) (dl : Int) (A : Option Addr) (n c : Nat) (ss : List Stp) (A1 : Option Addr) (l : List UInt8) (c1 : Nat) (w : World) (hn : n = ss.length) (hz : nm.size ≤ 9223372036854775807) (hb : n ≤ 9223372036854775807) (hc : n ≤ c) (hf : ∀ s ∈ ss, s.Fits) (hS : Df.Steps w w.heap.size A ss) (hm : l.length ≤ 9223372036854775807) (hy : Byt w w.heap.size A1 l) :
    Calls Try.prog 3 #[.agg #[.string nm, .int .i64 dl, .slice A n c], .slice A1 l.length c1] w fun e w' => e = .returned (.bool true) ∧ Below w.heap.size w w' := by
  have HW := Lib.hid ((Below.refl w.heap.size w).alloc (Nat.le_refl _) (.cells #[.string nm, .int .i64 dl, .slice A n c] 24))
  have HX := Lib.hid (Box.new w 24 #[.string nm, .int .i64 dl, .slice A n c])
  have HSm : Hid (∀ W, Below w.heap.size w W → Calls Try.prog 8 #[.agg #[.string nm, .int .i64 dl, .slice A n c]] W fun e w'' => e = .returned (.int .i64 (smallI nm ss)) ∧ Made W w'') := Lib.hid fun W h => small_any nm dl A c ss n W hn hb hz hf (hS.on h)
  have HS := Lib.hid hS
  have HN := Lib.hid hn
  have HC := Lib.hid hc
  have HY0 := Lib.hid hy
  clear hS hn hf hc hz hb hy
  by_cases q0 : smallI nm ss = 0
  rotate_left
  · have g0 : (smallI nm ss != 0) = true := by simpa using q0
    clear q0
    go_enter Try.func3, Try.ntmps3
    go_wp2_with fail
    generalize w.alloc (.cells #[.string nm, .int .i64 dl, .slice A n c] 24) = W0 at *
    refine (awake_any _).mono ?_
    rintro e w1 ⟨rfl, b1⟩
    have HX1 := Lib.hid (HX.out.below b1 HX.out.lt)
    have HW1 := Lib.hid (HW.out.trans (b1.mono HW.out.size))
    clear b1
    obtain ⟨d0, d1, d2⟩ := dfc HX1.out
    go_wp2_with fail
    refine (HSm.out _ HW1.out).mono ?_
    rintro e w2 ⟨rfl, hm⟩
    have HX2 := Lib.hid (Bo.Box.made HX1.out hm)
    have HW2 := Lib.hid (HW1.out.trans (hm.below.mono HW1.out.size))
    clear hm d0 d1 d2 HX1 HW1
    obtain ⟨d0, d1, d2⟩ := dfc HX2.out
    go_wp2
    go_ret
    exact ⟨rfl, HW2.out⟩
  obtain ⟨s40, snm, sst⟩ := small_yes q0
  rw [q0] at HSm
  have HM : Hid (Mod nm ss) := Lib.hid ⟨by omega, by omega, fun s hs => by have := sst s hs; omega⟩
  have HFi : Hid (nm.size ≤ 256 ∧ ∀ x ∈ ss, x.nm.size ≤ 256 ∧ x.pt.size ≤ 256) := Lib.hid ⟨by omega, fun s hs => by have := sst s hs; omega⟩
  have hn40 : n ≤ 40 := by rw [HN.out]; exact s40
  clear q0 sst s40 snm
  by_cases q1 : 700 < l.length
  · have g1 : decide (700 < (l.length : Int)) = true := decide_eq_true (by omega)
    go_enter Try.func3, Try.ntmps3
    go_wp2_with fail
    generalize w.alloc (.cells #[.string nm, .int .i64 dl, .slice A n c] 24) = W0 at *
    refine (awake_any _).mono ?_
    rintro e w1 ⟨rfl, b1⟩
    have HX1 := Lib.hid (HX.out.below b1 HX.out.lt)
    have HW1 := Lib.hid (HW.out.trans (b1.mono HW.out.size))
    clear b1
    obtain ⟨d0, d1, d2⟩ := dfc HX1.out
    go_wp2_with fail
    refine (HSm.out _ HW1.out).mono ?_
    rintro e w2 ⟨rfl, hm⟩
    have HX2 := Lib.hid (Bo.Box.made HX1.out hm)
    have HW2 := Lib.hid (HW1.out.trans (hm.below.mono HW1.out.size))
    clear hm d0 d1 d2 HX1 HW1
    obtain ⟨d0, d1, d2⟩ := dfc HX2.out
    go_wp2
    go_ret
    exact ⟨rfl, HW2.out⟩
  have g1 : decide (700 < (l.length : Int)) = false := decide_eq_false (by omega)
  have HPD : Hid (∀ W, Below w.heap.size w W → Calls Try.prog 9 #[.agg #[.string nm, .int .i64 dl, .slice A n c]] W (OwnB W (defF nm dl ss))) := Lib.hid fun W h => putDef_any nm dl A c ss n W HN.out HM.out (HS.out.on h)
  obtain ⟨t1, ht1⟩ : ∃ t, t = sb (defF nm dl ss) := ⟨_, rfl⟩
  obtain ⟨t2, ht2⟩ : ∃ t, t = sb l := ⟨_, rfl⟩
  have HRF : Hid (∀ W, Below w.heap.size w W → Calls Try.prog 10 #[.agg #[.string nm, .int .i64 dl, .slice A n c]] W fun e w2 => e = .returned (.string t1) ∧ Made W w2) := Lib.hid fun W h => by rw [ht1]; exact rdef_s nm dl A c ss n W HN.out HM.out (HS.out.on h)
  have HTk := Lib.hid (take_is l (by omega))
  have HRd := Lib.hid (read_is l (by omega))
  have HZ := Lib.hid (defA_zero (l := l))
  have HXm := Lib.hid (mod_A l)
  obtain ⟨X, hX⟩ : ∃ X, X = (defA l).1 := ⟨_, rfl⟩
  obtain ⟨at_, hat⟩ : ∃ a, a = (defA l).2.1 := ⟨_, rfl⟩
  obtain ⟨er, her⟩ : ∃ a, a = (defA l).2.2 := ⟨_, rfl⟩
  rw [← hX, ← hat, ← her] at HTk HRd
  rw [← hX, ← her] at HZ
  rw [← hX] at HXm
  rw [← ht2] at HRd
  clear hX hat her
  have HT1 := Lib.hid ht1
  have HT2' := Lib.hid ht2
  have HT2 : Hid (er = 0 → t2 = ⟨(defF X.nm X.dl X.ss).toArray⟩) := Lib.hid fun h => by rw [ht2]; unfold sb; rw [← HZ.out h]
  have HCk : Hid (∀ W, Below w.heap.size w W → Calls Try.prog 14 #[.agg #[.string nm, .int .i64 dl, .slice A n c]] W (ChkPost nm dl ss W)) := Lib.hid fun W h => rcheck_any nm dl A c ss n W HN.out (by omega) (HS.out.on h) (by have := HM.out.1; omega) (fun s hs => by have := HM.out.2.2 s hs; omega)
  have HLr := Lib.hid (HM.out.le)
  have HLf := Lib.hid (defF_len nm dl ss)
  clear ht1 ht2 HZ q1
  go_enter Try.func3, Try.ntmps3
  go_wp2_with fail
  generalize w.alloc (.cells #[.string nm, .int .i64 dl, .slice A n c] 24) = W0 at *
  refine (awake_any _).mono ?_
  rintro e w1 ⟨rfl, b1⟩
  have HX1 := Lib.hid (HX.out.below b1 HX.out.lt)
  have HW1 := Lib.hid (HW.out.trans (b1.mono HW.out.size))
  clear b1
  obtain ⟨d0, d1, d2⟩ := dfc HX1.out
  go_wp2_with fail
  refine (HSm.out _ HW1.out).mono ?_
  rintro e w2 ⟨rfl, hm⟩
  have HX2 := Lib.hid (Bo.Box.made HX1.out hm)
  have HW2 := Lib.hid (HW1.out.trans (hm.below.mono HW1.out.size))
  clear hm d0 d1 d2 HX1 HW1
  obtain ⟨d0, d1, d2⟩ := dfc HX2.out
  go_wp2_with fail
  refine (HPD.out _ HW2.out).mono ?_
  rintro e w3 ⟨A2, c2, rfl, hc2, hy2, b3⟩
  obtain ⟨n2, hn2⟩ : ∃ m, m = (defF nm dl ss).length := ⟨_, rfl⟩
  rw [← hn2]
  have HN2 := Lib.hid hn2
  have hn2b : n2 ≤ 100000000000 := by rw [hn2, HLf.out]; have := HLr.out; have := HM.out.1; omega
  have HX3 := Lib.hid (HX2.out.below b3 HX2.out.lt)
  have HW3 := Lib.hid (HW2.out.trans (b3.mono HW2.out.size))
  have HY2 := Lib.hid hy2
  clear b3 hy2 hc2 hn2 d0 d1 d2 HX2 HW2 HPD
  go_upto_region 6 with fail
  obtain ⟨V, hV⟩ : ∃ V, V = w3 := ⟨_, rfl⟩
  subst hV
  have HV1 : Hid (∀ u, Below V.heap.size V u → (convert 25 9 (.slice A2 n2 c2)).run Try.prog u = .ok (.string t1) u) := Lib.hid fun u H => by
    rw [HN2.out, HT1.out]
    exact (HY2.out.below H).text 25 5 9 Try.underlying25 Try.underlying5 Try.underlying9 c2
  go_cut [33] from 29 to 33 (fun v wx => v = .bool false ∧ Hid (Below V.heap.size V wx))
  case first => as_aux_lemma =>
    have a0 : ∀ u, Below V.heap.size V u → u.cell? ⟨w.heap.size, 0, none⟩ = some (.string nm) := fun u H => (H.cell (p := ⟨w.heap.size, 0, none⟩) HX3.out.lt).trans (HX3.out.cell 0)
    have a1 : ∀ u, Below V.heap.size V u → u.cell? ⟨w.heap.size, 1, none⟩ = some (.int .i64 dl) := fun u H => (H.cell (p := ⟨w.heap.size, 1, none⟩) HX3.out.lt).trans (HX3.out.cell 1)
    have a2 : ∀ u, Below V.heap.size V u → u.cell? ⟨w.heap.size, 2, none⟩ = some (.slice A n c) := fun u H => (H.cell (p := ⟨w.heap.size, 2, none⟩) HX3.out.lt).trans (HX3.out.cell 2)
    have hv1 := HV1.out
    refine wp_region_held_drew (S := fun u => Below V.heap.size V u) (by kernel_rfl) (Below.drew (Below.refl _ _)) (fun hHeld => ?_)
    refine wpAnyH_take (i := 0) (oi := ⟨some 29, _, _, _, _, _⟩) (v := ?_) rfl (by kernel_rfl) (by kernel_rfl) (by kernel_rfl) (fun _ _ _ h => h) (Or.inl ⟨by rfl, ?_⟩) (by assumption) ?_
    rotate_left
    · (intro u hu; (try dsimp only at hu); go_simp; (try with_reducible rfl))
    (try simp only [Act.put, List.setIfInBounds_toArray, List.set_cons_zero, List.set_cons_succ])
    refine wpAnyH_take (i := 1) (oi := ⟨some 30, _, _, _, _, _⟩) (v := ?_) rfl (by kernel_rfl) (by kernel_rfl) (by kernel_rfl) (fun _ _ _ h => h) (Or.inl ⟨by rfl, ?_⟩) (by assumption) ?_
    rotate_left
    · (intro u hu; (try dsimp only at hu); go_simp; (try with_reducible rfl))
    (try simp only [Act.put, List.setIfInBounds_toArray, List.set_cons_zero, List.set_cons_succ])
    refine wpAnyH_take (i := 2) (oi := ⟨some 31, _, _, _, _, _⟩) (v := ?_) rfl (by kernel_rfl) (by kernel_rfl) (by kernel_rfl) (fun _ _ _ h => h) (Or.inl ⟨by rfl, ?_⟩) (by assumption) ?_
    rotate_left
    · (intro u hu; (try dsimp only at hu); go_simp; (try with_reducible rfl))
    (try simp only [Act.put, List.setIfInBounds_toArray, List.set_cons_zero, List.set_cons_succ])
    refine wpAnyH_ready (rs := [3]) (by kernel_rfl) (by simp) ?_
    refine AllReadyH.cons (o := ⟨some 32, _, _, _, _, _⟩) rfl (fun K hK => ?_) AllReadyH.nil
    go_simp
    refine (HRF.out _ (HW3.out.trans (Below.drew (Below.mono (Below.refl V.heap.size V) HW3.out.size)))).mono ?_
    rintro e v1 ⟨rfl, hm⟩
    have hb1 := (Below.drew (Below.refl V.heap.size V)).trans (hm.below.mono (Nat.le_refl _))
    go_wp2_with fail
    refine hK.out _ _ ?_ (fun hHeld => ?_)
    · exact hb1
    clear hK K
    (try simp only [Act.put, List.setIfInBounds_toArray, List.set_cons_zero, List.set_cons_succ])
    refine wpAnyH_take (i := 4) (oi := ⟨some 33, _, _, _, _, _⟩) (v := ?_) rfl (by kernel_rfl) (by kernel_rfl) (by kernel_rfl) (fun _ _ _ h => h) (Or.inl ⟨by rfl, ?_⟩) (by assumption) ?_
    rotate_left
    · (intro u hu; (try dsimp only at hu); go_simp; (try with_reducible rfl))
    (try simp only [Act.put, List.setIfInBounds_toArray, List.set_cons_zero, List.set_cons_succ])
    refine wpAnyH_done (by kernel_rfl) ?_ _
    go_wp2_with fail
    go_meet
    exact ⟨rfl, Lib.hid hb1⟩
  case rest =>
    obtain ⟨rfl, HWx⟩ := hcut
    have HX4 := Lib.hid (HX3.out.below HWx.out HX3.out.lt)
    have HW4 := Lib.hid (HW3.out.trans (HWx.out.mono HW3.out.size))
    have HY4 := Lib.hid ((HY2.out.below HWx.out).more HWx.out.size)
    clear HWx HX3 HW3 HY2 HV1 HRF
    go_wp2_with fail
    refine (HTk.out A1 c1 wc (HY0.out.below HW4.out |>.more HW4.out.size)).mono ?_
    rintro e w4 ⟨A3, n3, c3, rfl, hn3, hc3, hS3, b4⟩
    have HN3 := Lib.hid hn3
    have HS3 := Lib.hid hS3
    have HW5 := Lib.hid (HW4.out.trans (b4.mono HW4.out.size))
    have HX5 := Lib.hid (HX4.out.below b4 HX4.out.lt)
    have HY5 := Lib.hid ((HY4.out.below b4).more b4.size)
    clear b4 hn3 hc3 hS3 HTk HX4 HW4 HY4
    have hcb : ∀ u, Below w.heap.size w u → (convert 25 9 (.slice A1 l.length c1)).run Try.prog u = .ok (.string t2) u := fun u H => by
      rw [HT2'.out]
      exact (HY0.out.below H).text 25 5 9 Try.underlying25 Try.underlying5 Try.underlying9 c1
    have HCB := Lib.hid hcb
    have hcb3 := hcb _ (HW5.out.alloc HW5.out.size (.cells #[.string X.nm, .int .i64 X.dl, .slice A3 n3 c3] 24))
    clear hcb
    go_wp2_with fail
    refine (HRd.out _).mono ?_
    rintro e w5 ⟨A4, n4, c4, rfl, hn4, hc4, hS4, b5⟩
    have hbw := (Below.refl w4.heap.size w4).alloc (Nat.le_refl _) (.cells #[.string X.nm, .int .i64 X.dl, .slice A3 n3 c3] 24)
    have hb4 : Below w4.heap.size w4 w5 := hbw.trans (b5.mono hbw.size)
    have HN4 := Lib.hid hn4
    have HX6' := Lib.hid ((Box.new w4 24 #[.string X.nm, .int .i64 X.dl, .slice A3 n3 c3]).below b5 (Box.new w4 24 #[.string X.nm, .int .i64 X.dl, .slice A3 n3 c3]).lt)
    have HX7 := Lib.hid (HX5.out.below hb4 HX5.out.lt)
    have HW7 := Lib.hid (HW5.out.trans (hb4.mono HW5.out.size))
    have HY7 := Lib.hid ((HY5.out.below hb4).more hb4.size)
    have HS3' := Lib.hid (HS3.out.on hb4)
    have HS4' := Lib.hid hS4
    clear hbw hb4 b5 hn4 hc4 hS4 HX5 HW5 HY5 HS3 HRd hcb3
    go_upto_region 10 with fail
    have hbn := (Below.refl w5.heap.size w5).alloc (Nat.le_refl _) (.cells #[.string X.nm, .int .i64 X.dl, .slice A4 n4 c4] 24)
    have HX6 := Lib.hid (HX6'.out.alloc (.cells #[.string X.nm, .int .i64 X.dl, .slice A4 n4 c4] 24))
    have HX9 := Lib.hid (Box.new w5 24 #[.string X.nm, .int .i64 X.dl, .slice A4 n4 c4])
    have HX8 := Lib.hid (HX7.out.alloc (.cells #[.string X.nm, .int .i64 X.dl, .slice A4 n4 c4] 24))
    have HW8 := Lib.hid (HW7.out.alloc HW7.out.size (.cells #[.string X.nm, .int .i64 X.dl, .slice A4 n4 c4] 24))
    have HY8 := Lib.hid ((HY7.out.below hbn).more hbn.size)
    have HS5 := Lib.hid (HS3'.out.on hbn)
    have HS6 := Lib.hid (HS4'.out.on hbn)
    clear hbn HX6' HX7 HW7 HY7 HS3' HS4'
    generalize w5.alloc (.cells #[.string X.nm, .int .i64 X.dl, .slice A4 n4 c4] 24) = V at *
    have HV2 : Hid (∀ u, Below V.heap.size V u → (convert 25 9 (.slice A1 l.length c1)).run Try.prog u = .ok (.string t2) u) := Lib.hid fun u H => HCB.out u (HW8.out.trans (H.mono HW8.out.size))
    have HSa : Hid (∀ u, Below V.heap.size V u → Calls Try.prog 13 #[.agg #[.string X.nm, .int .i64 X.dl, .slice A3 n3 c3], .agg #[.string X.nm, .int .i64 X.dl, .slice A4 n4 c4]] u fun e w' => e = .returned (.bool true) ∧ Made u w') := Lib.hid fun u H => by
      have h := rsame_any X.nm X.nm X.dl X.dl A3 A4 c3 c4 X.ss X.ss n3 n4 u HN3.out HN4.out (by rw [HN3.out]; have := HXm.out.2.1; omega) (by rw [HN4.out]; have := HXm.out.2.1; omega) (HS5.out.on H) (HS6.out.on H)
      rw [same_yes] at h
      exact h
    have HPX : Hid (∀ u, Below V.heap.size V u → Calls Try.prog 9 #[.agg #[.string X.nm, .int .i64 X.dl, .slice A3 n3 c3]] u (OwnB u (defF X.nm X.dl X.ss))) := Lib.hid fun u H => putDef_any X.nm X.dl A3 c3 X.ss n3 u HN3.out HXm.out (HS5.out.on H)
    go_cut [72] from 47 to 72 (fun v wx => v = .bool false ∧ Hid (Below V.heap.size V wx))
    case first =>
      by_cases he : er = 0
      · as_aux_lemma =>
        have HT2 := Lib.hid (HT2.out he)
        have HOE : Hid (((er : Int) == 0) = true) := Lib.hid (by simp [he])
        clear he
        have x0 : ∀ u, Below V.heap.size V u → u.cell? ⟨w4.heap.size, 0, none⟩ = some (.string X.nm) := fun u H => (H.cell (p := ⟨w4.heap.size, 0, none⟩) HX6.out.lt).trans (HX6.out.cell 0)
        have x1 : ∀ u, Below V.heap.size V u → u.cell? ⟨w4.heap.size, 1, none⟩ = some (.int .i64 X.dl) := fun u H => (H.cell (p := ⟨w4.heap.size, 1, none⟩) HX6.out.lt).trans (HX6.out.cell 1)
        have x2 : ∀ u, Below V.heap.size V u → u.cell? ⟨w4.heap.size, 2, none⟩ = some (.slice A3 n3 c3) := fun u H => (H.cell (p := ⟨w4.heap.size, 2, none⟩) HX6.out.lt).trans (HX6.out.cell 2)
        have y0 : ∀ u, Below V.heap.size V u → u.cell? ⟨w5.heap.size, 0, none⟩ = some (.string X.nm) := fun u H => (H.cell (p := ⟨w5.heap.size, 0, none⟩) HX9.out.lt).trans (HX9.out.cell 0)
        have y1 : ∀ u, Below V.heap.size V u → u.cell? ⟨w5.heap.size, 1, none⟩ = some (.int .i64 X.dl) := fun u H => (H.cell (p := ⟨w5.heap.size, 1, none⟩) HX9.out.lt).trans (HX9.out.cell 1)
        have y2 : ∀ u, Below V.heap.size V u → u.cell? ⟨w5.heap.size, 2, none⟩ = some (.slice A4 n4 c4) := fun u H => (H.cell (p := ⟨w5.heap.size, 2, none⟩) HX9.out.lt).trans (HX9.out.cell 2)
        have hv2 := HV2.out
        have hoe := HOE.out
        refine wp_region_held_drew (S := fun u => Below V.heap.size V u) (by kernel_rfl) (Below.drew (Below.refl _ _)) (fun hHeld => ?_)
        refine wpAnyH_take (i := 0) (oi := ⟨some 47, _, _, _, _, _⟩) (v := ?_) rfl (by kernel_rfl) (by kernel_rfl) (by kernel_rfl) (fun _ _ _ h => h) (Or.inl ⟨by rfl, ?_⟩) (by assumption) ?_
        rotate_left
        · (intro u hu; (try dsimp only at hu); go_simp; (try with_reducible rfl))
        (try simp only [Act.put, List.setIfInBounds_toArray, List.set_cons_zero, List.set_cons_succ])
        refine wpAnyH_take (i := 1) (oi := ⟨some 48, _, _, _, _, _⟩) (v := ?_) rfl (by kernel_rfl) (by kernel_rfl) (by kernel_rfl) (fun _ _ _ h => h) (Or.inl ⟨by rfl, ?_⟩) (by assumption) ?_
        rotate_left
        · (intro u hu; (try dsimp only at hu); go_simp; (try with_reducible rfl))
        (try simp only [Act.put, List.setIfInBounds_toArray, List.set_cons_zero, List.set_cons_succ])
        refine wpAnyH_ready (rs := [2]) (by kernel_rfl) (by simp) ?_
        refine AllReadyH.cons (o := ⟨some 49, _, _, _, _, _⟩) rfl (fun K hK => ?_) AllReadyH.nil
        go_simp
        refine (HSa.out _ (Below.drew (Below.refl _ _))).mono ?_
        rintro e v1 ⟨rfl, hm⟩
        have hb1 := (Below.drew (Below.refl V.heap.size V)).trans (hm.below.mono (Nat.le_refl _))
        go_wp2_with fail
        refine hK.out _ _ ?_ (fun hHeld => ?_)
        · exact hb1
        clear hK K
        (try simp only [Act.put, List.setIfInBounds_toArray, List.set_cons_zero, List.set_cons_succ])
        refine wpAnyH_take (i := 3) (oi := ⟨some 50, _, _, _, _, _⟩) (v := ?_) rfl (by kernel_rfl) (by kernel_rfl) (by kernel_rfl) (fun _ _ _ h => h) (Or.inl ⟨by rfl, ?_⟩) (by assumption) ?_
        rotate_left
        · (intro u hu; (try dsimp only at hu); go_simp; (try with_reducible rfl))
        (try simp only [Act.put, List.setIfInBounds_toArray, List.set_cons_zero, List.set_cons_succ])
        refine wpAnyH_take (i := 4) (oi := ⟨some 51, _, _, _, _, _⟩) (v := ?_) rfl (by kernel_rfl) (by kernel_rfl) (by kernel_rfl) (fun _ _ _ h => h) (Or.inl ⟨by rfl, ?_⟩) (by assumption) ?_
        rotate_left
        · (intro u hu; (try dsimp only at hu); go_simp; (try with_reducible rfl))
        (try simp only [Act.put, List.setIfInBounds_toArray, List.set_cons_zero, List.set_cons_succ])
        refine wpAnyH_take (i := 5) (oi := ⟨some 52, _, _, _, _, _⟩) (v := ?_) rfl (by kernel_rfl) (by kernel_rfl) (by kernel_rfl) (fun _ _ _ h => h) (Or.inl ⟨by rfl, ?_⟩) (by assumption) ?_
        rotate_left
        · (intro u hu; (try dsimp only at hu); go_simp; (try with_reducible rfl))
        (try simp only [Act.put, List.setIfInBounds_toArray, List.set_cons_zero, List.set_cons_succ])
        refine wpAnyH_take (i := 6) (oi := ⟨some 53, _, _, _, _, _⟩) (v := ?_) rfl (by kernel_rfl) (by kernel_rfl) (by kernel_rfl) (fun _ _ _ h => h) (Or.inl ⟨by rfl, ?_⟩) (by assumption) ?_
        rotate_left
        · (intro u hu; (try dsimp only at hu); go_simp; (try with_reducible rfl))
        (try simp only [Act.put, List.setIfInBounds_toArray, List.set_cons_zero, List.set_cons_succ])
        refine wpAnyH_take (i := 7) (oi := ⟨some 54, _, _, _, _, _⟩) (v := ?_) rfl (by kernel_rfl) (by kernel_rfl) (by kernel_rfl) (fun _ _ _ h => h) (Or.inl ⟨by rfl, ?_⟩) (by assumption) ?_
        rotate_left
        · (intro u hu; (try dsimp only at hu); go_simp; (try with_reducible rfl))
        (try simp only [Act.put, List.setIfInBounds_toArray, List.set_cons_zero, List.set_cons_succ])
        refine wpAnyH_take (i := 8) (oi := ⟨some 55, _, _, _, _, _⟩) (v := ?_) rfl (by kernel_rfl) (by kernel_rfl) (by kernel_rfl) (fun _ _ _ h => h) (Or.inl ⟨by rfl, ?_⟩) (by assumption) ?_
        rotate_left
        · (intro u hu; (try dsimp only at hu); go_simp; (try with_reducible rfl))
        (try simp only [Act.put, List.setIfInBounds_toArray, List.set_cons_zero, List.set_cons_succ])
        refine wpAnyH_take (i := 9) (oi := ⟨some 56, _, _, _, _, _⟩) (v := ?_) rfl (by kernel_rfl) (by kernel_rfl) (by kernel_rfl) (fun _ _ _ h => h) (Or.inl ⟨by rfl, ?_⟩) (by assumption) ?_
        rotate_left
        · (intro u hu; (try dsimp only at hu); go_simp; (try with_reducible rfl))
        (try simp only [Act.put, List.setIfInBounds_toArray, List.set_cons_zero, List.set_cons_succ])
        refine wpAnyH_take (i := 10) (oi := ⟨some 57, _, _, _, _, _⟩) (v := ?_) rfl (by kernel_rfl) (by kernel_rfl) (by kernel_rfl) (fun _ _ _ h => h) (Or.inl ⟨by rfl, ?_⟩) (by assumption) ?_
        rotate_left
        · (intro u hu; (try dsimp only at hu); go_simp; (try with_reducible rfl))
        (try simp only [Act.put, List.setIfInBounds_toArray, List.set_cons_zero, List.set_cons_succ])
        refine wpAnyH_take (i := 11) (oi := ⟨some 58, _, _, _, _, _⟩) (v := ?_) rfl (by kernel_rfl) (by kernel_rfl) (by kernel_rfl) (fun _ _ _ h => h) (Or.inl ⟨by rfl, ?_⟩) (by assumption) ?_
        rotate_left
        · (intro u hu; (try dsimp only at hu); go_simp; (try with_reducible rfl))
        (try simp only [Act.put, List.setIfInBounds_toArray, List.set_cons_zero, List.set_cons_succ])
        refine wpAnyH_take (i := 12) (oi := ⟨some 59, _, _, _, _, _⟩) (v := ?_) rfl (by kernel_rfl) (by kernel_rfl) (by kernel_rfl) (fun _ _ _ h => h) (Or.inl ⟨by rfl, ?_⟩) (by assumption) ?_
        rotate_left
        · (intro u hu; (try dsimp only at hu); go_simp; (try with_reducible rfl))
        (try simp only [Act.put, List.setIfInBounds_toArray, List.set_cons_zero, List.set_cons_succ])
        refine wpAnyH_take (i := 13) (oi := ⟨some 60, _, _, _, _, _⟩) (v := ?_) rfl (by kernel_rfl) (by kernel_rfl) (by kernel_rfl) (fun _ _ _ h => h) (Or.inl ⟨by rfl, ?_⟩) (by assumption) ?_
        rotate_left
        · (intro u hu; (try dsimp only at hu); go_simp; (try with_reducible rfl))
        (try simp only [Act.put, List.setIfInBounds_toArray, List.set_cons_zero, List.set_cons_succ])
        refine wpAnyH_take (i := 14) (oi := ⟨some 61, _, _, _, _, _⟩) (v := ?_) rfl (by kernel_rfl) (by kernel_rfl) (by kernel_rfl) (fun _ _ _ h => h) (Or.inl ⟨by rfl, ?_⟩) (by assumption) ?_
        rotate_left
        · (intro u hu; (try dsimp only at hu); go_simp; (try with_reducible rfl))
        (try simp only [Act.put, List.setIfInBounds_toArray, List.set_cons_zero, List.set_cons_succ])
        refine wpAnyH_take (i := 15) (oi := ⟨some 62, _, _, _, _, _⟩) (v := ?_) rfl (by kernel_rfl) (by kernel_rfl) (by kernel_rfl) (fun _ _ _ h => h) (Or.inl ⟨by rfl, ?_⟩) (by assumption) ?_
        rotate_left
        · (intro u hu; (try dsimp only at hu); go_simp; (try with_reducible rfl))
        (try simp only [Act.put, List.setIfInBounds_toArray, List.set_cons_zero, List.set_cons_succ])
        refine wpAnyH_take (i := 16) (oi := ⟨some 63, _, _, _, _, _⟩) (v := ?_) rfl (by kernel_rfl) (by kernel_rfl) (by kernel_rfl) (fun _ _ _ h => h) (Or.inl ⟨by rfl, ?_⟩) (by assumption) ?_
        rotate_left
        · (intro u hu; (try dsimp only at hu); go_simp; (try with_reducible rfl))
        (try simp only [Act.put, List.setIfInBounds_toArray, List.set_cons_zero, List.set_cons_succ])
        refine wpAnyH_take (i := 17) (oi := ⟨some 64, _, _, _, _, _⟩) (v := ?_) rfl (by kernel_rfl) (by kernel_rfl) (by kernel_rfl) (fun _ _ _ h => h) (Or.inl ⟨by rfl, ?_⟩) (by assumption) ?_
        rotate_left
        · (intro u hu; (try dsimp only at hu); go_simp; (try with_reducible rfl))
        (try simp only [Act.put, List.setIfInBounds_toArray, List.set_cons_zero, List.set_cons_succ])
        refine wpAnyH_take (i := 18) (oi := ⟨some 65, _, _, _, _, _⟩) (v := ?_) rfl (by kernel_rfl) (by kernel_rfl) (by kernel_rfl) (fun _ _ _ h => h) (Or.inl ⟨by rfl, ?_⟩) (by assumption) ?_
        rotate_left
        · (intro u hu; (try dsimp only at hu); go_simp; (try with_reducible rfl))
        (try simp only [Act.put, List.setIfInBounds_toArray, List.set_cons_zero, List.set_cons_succ])
        refine wpAnyH_take (i := 21) (oi := ⟨some 68, _, _, _, _, _⟩) (v := ?_) rfl (by kernel_rfl) (by kernel_rfl) (by kernel_rfl) (fun _ _ _ h => h) (Or.inl ⟨by rfl, ?_⟩) (by assumption) ?_
        rotate_left
        · (intro u hu; (try dsimp only at hu); go_simp; (try with_reducible rfl))
        (try simp only [Act.put, List.setIfInBounds_toArray, List.set_cons_zero, List.set_cons_succ])
        refine wpAnyH_take (i := 22) (oi := ⟨some 69, _, _, _, _, _⟩) (v := ?_) rfl (by kernel_rfl) (by kernel_rfl) (by kernel_rfl) (fun _ _ _ h => h) (Or.inl ⟨by rfl, ?_⟩) (by assumption) ?_
        rotate_left
        · (intro u hu; (try dsimp only at hu); go_simp; (try with_reducible rfl))
        (try simp only [Act.put, List.setIfInBounds_toArray, List.set_cons_zero, List.set_cons_succ])
        refine wpAnyH_ready (rs := [19]) (by kernel_rfl) (by simp) ?_
        refine AllReadyH.cons (o := ⟨some 66, _, _, _, _, _⟩) rfl (fun K hK => ?_) AllReadyH.nil
        go_simp
        refine (HPX.out v1 hb1).mono ?_
        rintro e v2 ⟨A5, c5, rfl, h5, y5, b5⟩
        have hb2 := hb1.trans (b5.mono hb1.size)
        have hcv : ∀ u, Below v2.heap.size v2 u → (convert 25 9 (.slice A5 (defF X.nm X.dl X.ss).length c5)).run Try.prog u = .ok (.string t2) u := fun u H => by rw [HT2.out]; exact (y5.below H).text 25 5 9 Try.underlying25 Try.underlying5 Try.underlying9 c5
        go_wp2_with fail
        refine hK.out _ _ ?_ (fun hHeld => ?_)
        · exact hb2
        clear hK K
        (try simp only [Act.put, List.setIfInBounds_toArray, List.set_cons_zero, List.set_cons_succ])
        refine wpAnyH_mono (S' := fun u => Below V.heap.size V u ∧ Below v2.heap.size v2 u) (fun _ h => h.1) _ _ _ _ ?_
        have hH5 : (fun u => Below V.heap.size V u ∧ Below v2.heap.size v2 u) v2 := ⟨hb2, Below.refl _ _⟩
        have hv3 : ∀ u, Below V.heap.size V u ∧ Below v2.heap.size v2 u → (convert 25 9 (.slice A1 l.length c1)).run Try.prog u = .ok (.string t2) u := fun u H => hv2 u H.1
        have hcv2 : ∀ u, Below V.heap.size V u ∧ Below v2.heap.size v2 u → (convert 25 9 (.slice A5 (defF X.nm X.dl X.ss).length c5)).run Try.prog u = .ok (.string t2) u := fun u H => hcv u H.2
        clear hv2 hcv
        refine wpAnyH_take (i := 20) (oi := ⟨some 67, _, _, _, _, _⟩) (v := ?_) rfl (by kernel_rfl) (by kernel_rfl) (by kernel_rfl) (fun _ _ _ h => h) (Or.inl ⟨by rfl, ?_⟩) (by assumption) ?_
        rotate_left
        · (intro u hu; (try dsimp only at hu); go_simp; (try with_reducible rfl))
        (try simp only [Act.put, List.setIfInBounds_toArray, List.set_cons_zero, List.set_cons_succ])
        refine wpAnyH_take (i := 23) (oi := ⟨some 70, _, _, _, _, _⟩) (v := ?_) rfl (by kernel_rfl) (by kernel_rfl) (by kernel_rfl) (fun _ _ _ h => h) (Or.inl ⟨by rfl, ?_⟩) (by assumption) ?_
        rotate_left
        · (intro u hu; (try dsimp only at hu); go_simp; (try with_reducible rfl))
        (try simp only [Act.put, List.setIfInBounds_toArray, List.set_cons_zero, List.set_cons_succ])
        refine wpAnyH_take (i := 24) (oi := ⟨some 71, _, _, _, _, _⟩) (v := ?_) rfl (by kernel_rfl) (by kernel_rfl) (by kernel_rfl) (fun _ _ _ h => h) (Or.inl ⟨by rfl, ?_⟩) (by assumption) ?_
        rotate_left
        · (intro u hu; (try dsimp only at hu); go_simp; (try with_reducible rfl))
        (try simp only [Act.put, List.setIfInBounds_toArray, List.set_cons_zero, List.set_cons_succ])
        refine wpAnyH_take (i := 25) (oi := ⟨some 72, _, _, _, _, _⟩) (v := ?_) rfl (by kernel_rfl) (by kernel_rfl) (by kernel_rfl) (fun _ _ _ h => h) (Or.inl ⟨by rfl, ?_⟩) (by assumption) ?_
        rotate_left
        · (intro u hu; (try dsimp only at hu); go_simp; (try with_reducible rfl))
        (try simp only [Act.put, List.setIfInBounds_toArray, List.set_cons_zero, List.set_cons_succ])
        refine wpAnyH_done (by kernel_rfl) ?_ _
        go_wp2_with fail
        go_meet
        exact ⟨rfl, Lib.hid hb2⟩
      · as_aux_lemma =>
        have HOE : Hid (((er : Int) == 0) = false) := Lib.hid (by simpa using he)
        clear he
        have x0 : ∀ u, Below V.heap.size V u → u.cell? ⟨w4.heap.size, 0, none⟩ = some (.string X.nm) := fun u H => (H.cell (p := ⟨w4.heap.size, 0, none⟩) HX6.out.lt).trans (HX6.out.cell 0)
        have x1 : ∀ u, Below V.heap.size V u → u.cell? ⟨w4.heap.size, 1, none⟩ = some (.int .i64 X.dl) := fun u H => (H.cell (p := ⟨w4.heap.size, 1, none⟩) HX6.out.lt).trans (HX6.out.cell 1)
        have x2 : ∀ u, Below V.heap.size V u → u.cell? ⟨w4.heap.size, 2, none⟩ = some (.slice A3 n3 c3) := fun u H => (H.cell (p := ⟨w4.heap.size, 2, none⟩) HX6.out.lt).trans (HX6.out.cell 2)
        have y0 : ∀ u, Below V.heap.size V u → u.cell? ⟨w5.heap.size, 0, none⟩ = some (.string X.nm) := fun u H => (H.cell (p := ⟨w5.heap.size, 0, none⟩) HX9.out.lt).trans (HX9.out.cell 0)
        have y1 : ∀ u, Below V.heap.size V u → u.cell? ⟨w5.heap.size, 1, none⟩ = some (.int .i64 X.dl) := fun u H => (H.cell (p := ⟨w5.heap.size, 1, none⟩) HX9.out.lt).trans (HX9.out.cell 1)
        have y2 : ∀ u, Below V.heap.size V u → u.cell? ⟨w5.heap.size, 2, none⟩ = some (.slice A4 n4 c4) := fun u H => (H.cell (p := ⟨w5.heap.size, 2, none⟩) HX9.out.lt).trans (HX9.out.cell 2)
        have hoe := HOE.out
        refine wp_region_held_drew (S := fun u => Below V.heap.size V u) (by kernel_rfl) (Below.drew (Below.refl _ _)) (fun hHeld => ?_)
        refine wpAnyH_take (i := 0) (oi := ⟨some 47, _, _, _, _, _⟩) (v := ?_) rfl (by kernel_rfl) (by kernel_rfl) (by kernel_rfl) (fun _ _ _ h => h) (Or.inl ⟨by rfl, ?_⟩) (by assumption) ?_
        rotate_left
        · (intro u hu; (try dsimp only at hu); go_simp; (try with_reducible rfl))
        (try simp only [Act.put, List.setIfInBounds_toArray, List.set_cons_zero, List.set_cons_succ])
        refine wpAnyH_take (i := 1) (oi := ⟨some 48, _, _, _, _, _⟩) (v := ?_) rfl (by kernel_rfl) (by kernel_rfl) (by kernel_rfl) (fun _ _ _ h => h) (Or.inl ⟨by rfl, ?_⟩) (by assumption) ?_
        rotate_left
        · (intro u hu; (try dsimp only at hu); go_simp; (try with_reducible rfl))
        (try simp only [Act.put, List.setIfInBounds_toArray, List.set_cons_zero, List.set_cons_succ])
        refine wpAnyH_ready (rs := [2]) (by kernel_rfl) (by simp) ?_
        refine AllReadyH.cons (o := ⟨some 49, _, _, _, _, _⟩) rfl (fun K hK => ?_) AllReadyH.nil
        go_simp
        refine (HSa.out _ (Below.drew (Below.refl _ _))).mono ?_
        rintro e v1 ⟨rfl, hm⟩
        have hb1 := (Below.drew (Below.refl V.heap.size V)).trans (hm.below.mono (Nat.le_refl _))
        go_wp2_with fail
        refine hK.out _ _ ?_ (fun hHeld => ?_)
        · exact hb1
        clear hK K
        (try simp only [Act.put, List.setIfInBounds_toArray, List.set_cons_zero, List.set_cons_succ])
        refine wpAnyH_take (i := 3) (oi := ⟨some 50, _, _, _, _, _⟩) (v := ?_) rfl (by kernel_rfl) (by kernel_rfl) (by kernel_rfl) (fun _ _ _ h => h) (Or.inl ⟨by rfl, ?_⟩) (by assumption) ?_
        rotate_left
        · (intro u hu; (try dsimp only at hu); go_simp; (try with_reducible rfl))
        (try simp only [Act.put, List.setIfInBounds_toArray, List.set_cons_zero, List.set_cons_succ])
        refine wpAnyH_take (i := 4) (oi := ⟨some 51, _, _, _, _, _⟩) (v := ?_) rfl (by kernel_rfl) (by kernel_rfl) (by kernel_rfl) (fun _ _ _ h => h) (Or.inl ⟨by rfl, ?_⟩) (by assumption) ?_
        rotate_left
        · (intro u hu; (try dsimp only at hu); go_simp; (try with_reducible rfl))
        (try simp only [Act.put, List.setIfInBounds_toArray, List.set_cons_zero, List.set_cons_succ])
        refine wpAnyH_take (i := 5) (oi := ⟨some 52, _, _, _, _, _⟩) (v := ?_) rfl (by kernel_rfl) (by kernel_rfl) (by kernel_rfl) (fun _ _ _ h => h) (Or.inl ⟨by rfl, ?_⟩) (by assumption) ?_
        rotate_left
        · (intro u hu; (try dsimp only at hu); go_simp; (try with_reducible rfl))
        (try simp only [Act.put, List.setIfInBounds_toArray, List.set_cons_zero, List.set_cons_succ])
        refine wpAnyH_take (i := 6) (oi := ⟨some 53, _, _, _, _, _⟩) (v := ?_) rfl (by kernel_rfl) (by kernel_rfl) (by kernel_rfl) (fun _ _ _ h => h) (Or.inl ⟨by rfl, ?_⟩) (by assumption) ?_
        rotate_left
        · (intro u hu; (try dsimp only at hu); go_simp; (try with_reducible rfl))
        (try simp only [Act.put, List.setIfInBounds_toArray, List.set_cons_zero, List.set_cons_succ])
        refine wpAnyH_take (i := 7) (oi := ⟨some 54, _, _, _, _, _⟩) (v := ?_) rfl (by kernel_rfl) (by kernel_rfl) (by kernel_rfl) (fun _ _ _ h => h) (Or.inl ⟨by rfl, ?_⟩) (by assumption) ?_
        rotate_left
        · (intro u hu; (try dsimp only at hu); go_simp; (try with_reducible rfl))
        (try simp only [Act.put, List.setIfInBounds_toArray, List.set_cons_zero, List.set_cons_succ])
        refine wpAnyH_take (i := 8) (oi := ⟨some 55, _, _, _, _, _⟩) (v := ?_) rfl (by kernel_rfl) (by kernel_rfl) (by kernel_rfl) (fun _ _ _ h => h) (Or.inl ⟨by rfl, ?_⟩) (by assumption) ?_
        rotate_left
        · (intro u hu; (try dsimp only at hu); go_simp; (try with_reducible rfl))
        (try simp only [Act.put, List.setIfInBounds_toArray, List.set_cons_zero, List.set_cons_succ])
        refine wpAnyH_take (i := 9) (oi := ⟨some 56, _, _, _, _, _⟩) (v := ?_) rfl (by kernel_rfl) (by kernel_rfl) (by kernel_rfl) (fun _ _ _ h => h) (Or.inl ⟨by rfl, ?_⟩) (by assumption) ?_
        rotate_left
        · (intro u hu; (try dsimp only at hu); go_simp; (try with_reducible rfl))
        (try simp only [Act.put, List.setIfInBounds_toArray, List.set_cons_zero, List.set_cons_succ])
        refine wpAnyH_take (i := 10) (oi := ⟨some 57, _, _, _, _, _⟩) (v := ?_) rfl (by kernel_rfl) (by kernel_rfl) (by kernel_rfl) (fun _ _ _ h => h) (Or.inl ⟨by rfl, ?_⟩) (by assumption) ?_
        rotate_left
        · (intro u hu; (try dsimp only at hu); go_simp; (try with_reducible rfl))
        (try simp only [Act.put, List.setIfInBounds_toArray, List.set_cons_zero, List.set_cons_succ])
        refine wpAnyH_take (i := 11) (oi := ⟨some 58, _, _, _, _, _⟩) (v := ?_) rfl (by kernel_rfl) (by kernel_rfl) (by kernel_rfl) (fun _ _ _ h => h) (Or.inl ⟨by rfl, ?_⟩) (by assumption) ?_
        rotate_left
        · (intro u hu; (try dsimp only at hu); go_simp; (try with_reducible rfl))
        (try simp only [Act.put, List.setIfInBounds_toArray, List.set_cons_zero, List.set_cons_succ])
        refine wpAnyH_take (i := 12) (oi := ⟨some 59, _, _, _, _, _⟩) (v := ?_) rfl (by kernel_rfl) (by kernel_rfl) (by kernel_rfl) (fun _ _ _ h => h) (Or.inl ⟨by rfl, ?_⟩) (by assumption) ?_
        rotate_left
        · (intro u hu; (try dsimp only at hu); go_simp; (try with_reducible rfl))
        (try simp only [Act.put, List.setIfInBounds_toArray, List.set_cons_zero, List.set_cons_succ])
        refine wpAnyH_take (i := 13) (oi := ⟨some 60, _, _, _, _, _⟩) (v := ?_) rfl (by kernel_rfl) (by kernel_rfl) (by kernel_rfl) (fun _ _ _ h => h) (Or.inl ⟨by rfl, ?_⟩) (by assumption) ?_
        rotate_left
        · (intro u hu; (try dsimp only at hu); go_simp; (try with_reducible rfl))
        (try simp only [Act.put, List.setIfInBounds_toArray, List.set_cons_zero, List.set_cons_succ])
        refine wpAnyH_take (i := 14) (oi := ⟨some 61, _, _, _, _, _⟩) (v := ?_) rfl (by kernel_rfl) (by kernel_rfl) (by kernel_rfl) (fun _ _ _ h => h) (Or.inl ⟨by rfl, ?_⟩) (by assumption) ?_
        rotate_left
        · (intro u hu; (try dsimp only at hu); go_simp; (try with_reducible rfl))
        (try simp only [Act.put, List.setIfInBounds_toArray, List.set_cons_zero, List.set_cons_succ])
        refine wpAnyH_take (i := 15) (oi := ⟨some 62, _, _, _, _, _⟩) (v := ?_) rfl (by kernel_rfl) (by kernel_rfl) (by kernel_rfl) (fun _ _ _ h => h) (Or.inl ⟨by rfl, ?_⟩) (by assumption) ?_
        rotate_left
        · (intro u hu; (try dsimp only at hu); go_simp; (try with_reducible rfl))
        (try simp only [Act.put, List.setIfInBounds_toArray, List.set_cons_zero, List.set_cons_succ])
        refine wpAnyH_take (i := 16) (oi := ⟨some 63, _, _, _, _, _⟩) (v := ?_) rfl (by kernel_rfl) (by kernel_rfl) (by kernel_rfl) (fun _ _ _ h => h) (Or.inl ⟨by rfl, ?_⟩) (by assumption) ?_
        rotate_left
        · (intro u hu; (try dsimp only at hu); go_simp; (try with_reducible rfl))
        (try simp only [Act.put, List.setIfInBounds_toArray, List.set_cons_zero, List.set_cons_succ])
        refine wpAnyH_take (i := 17) (oi := ⟨some 64, _, _, _, _, _⟩) (v := ?_) rfl (by kernel_rfl) (by kernel_rfl) (by kernel_rfl) (fun _ _ _ h => h) (Or.inl ⟨by rfl, ?_⟩) (by assumption) ?_
        rotate_left
        · (intro u hu; (try dsimp only at hu); go_simp; (try with_reducible rfl))
        (try simp only [Act.put, List.setIfInBounds_toArray, List.set_cons_zero, List.set_cons_succ])
        refine wpAnyH_take (i := 18) (oi := ⟨some 65, _, _, _, _, _⟩) (v := undef) rfl (by kernel_rfl) (by kernel_rfl) (by kernel_rfl) (fun _ _ _ h => h) (Or.inr ⟨by rfl, rfl⟩) (by assumption) ?_
        (try simp only [Act.put, List.setIfInBounds_toArray, List.set_cons_zero, List.set_cons_succ])
        refine wpAnyH_take (i := 19) (oi := ⟨some 66, _, _, _, _, _⟩) (v := undef) rfl (by kernel_rfl) (by kernel_rfl) (by kernel_rfl) (fun _ _ _ h => h) (Or.inr ⟨by rfl, rfl⟩) (by assumption) ?_
        (try simp only [Act.put, List.setIfInBounds_toArray, List.set_cons_zero, List.set_cons_succ])
        refine wpAnyH_take (i := 20) (oi := ⟨some 67, _, _, _, _, _⟩) (v := undef) rfl (by kernel_rfl) (by kernel_rfl) (by kernel_rfl) (fun _ _ _ h => h) (Or.inr ⟨by rfl, rfl⟩) (by assumption) ?_
        (try simp only [Act.put, List.setIfInBounds_toArray, List.set_cons_zero, List.set_cons_succ])
        refine wpAnyH_take (i := 21) (oi := ⟨some 68, _, _, _, _, _⟩) (v := undef) rfl (by kernel_rfl) (by kernel_rfl) (by kernel_rfl) (fun _ _ _ h => h) (Or.inr ⟨by rfl, rfl⟩) (by assumption) ?_
        (try simp only [Act.put, List.setIfInBounds_toArray, List.set_cons_zero, List.set_cons_succ])
        refine wpAnyH_take (i := 22) (oi := ⟨some 69, _, _, _, _, _⟩) (v := undef) rfl (by kernel_rfl) (by kernel_rfl) (by kernel_rfl) (fun _ _ _ h => h) (Or.inr ⟨by rfl, rfl⟩) (by assumption) ?_
        (try simp only [Act.put, List.setIfInBounds_toArray, List.set_cons_zero, List.set_cons_succ])
        refine wpAnyH_take (i := 23) (oi := ⟨some 70, _, _, _, _, _⟩) (v := undef) rfl (by kernel_rfl) (by kernel_rfl) (by kernel_rfl) (fun _ _ _ h => h) (Or.inr ⟨by rfl, rfl⟩) (by assumption) ?_
        (try simp only [Act.put, List.setIfInBounds_toArray, List.set_cons_zero, List.set_cons_succ])
        refine wpAnyH_take (i := 24) (oi := ⟨some 71, _, _, _, _, _⟩) (v := ?_) rfl (by kernel_rfl) (by kernel_rfl) (by kernel_rfl) (fun _ _ _ h => h) (Or.inl ⟨by rfl, ?_⟩) (by assumption) ?_
        rotate_left
        · (intro u hu; (try dsimp only at hu); go_simp; (try with_reducible rfl))
        (try simp only [Act.put, List.setIfInBounds_toArray, List.set_cons_zero, List.set_cons_succ])
        refine wpAnyH_take (i := 25) (oi := ⟨some 72, _, _, _, _, _⟩) (v := ?_) rfl (by kernel_rfl) (by kernel_rfl) (by kernel_rfl) (fun _ _ _ h => h) (Or.inl ⟨by rfl, ?_⟩) (by assumption) ?_
        rotate_left
        · (intro u hu; (try dsimp only at hu); go_simp; (try with_reducible rfl))
        (try simp only [Act.put, List.setIfInBounds_toArray, List.set_cons_zero, List.set_cons_succ])
        refine wpAnyH_done (by kernel_rfl) ?_ _
        go_wp2_with fail
        go_meet
        exact ⟨rfl, Lib.hid hb1⟩
    case rest =>
      obtain ⟨rfl, HWx⟩ := hcut
      have HXa := Lib.hid (HX8.out.below HWx.out HX8.out.lt)
      have HWa := Lib.hid (HW8.out.trans (HWx.out.mono HW8.out.size))
      have HYa := Lib.hid ((HY8.out.below HWx.out).more HWx.out.size)
      clear HWx HX8 HW8 HY8 HX6 HX9 HS5 HS6 HV2 HSa HPX HCB HN3 HN4
      obtain ⟨d0, d1, d2⟩ := dfc HXa.out
      go_wp2_with fail
      refine (HCk.out _ HWa.out).mono ?_
      rintro e w6 ⟨k', ev, rfl, hck, b6⟩
      have HK := Lib.hid (chk_right hck)
      have HXb := Lib.hid (HXa.out.below b6 HXa.out.lt)
      have HWb := Lib.hid (HWa.out.trans (b6.mono HWa.out.size))
      have HYb := Lib.hid ((HYa.out.below b6).more b6.size)
      clear b6 hck d0 d1 d2 HXa HWa HYa HCk
      by_cases hev : ev = 0
      rotate_left
      · have hz2 : (ev != 0) = true := by simpa using hev
        go_wp2
        go_ret
        exact ⟨rfl, HWb.out⟩
      have hz2 : (ev != 0) = false := by simp [hev]
      have HTd : Hid (∀ A c W, Byt W W.heap.size A (defF nm dl ss) → Calls Try.prog 11 #[.slice A n2 c] W fun e w' => ∃ A n c, e = .returned (.tuple #[.agg #[.string (⟨nm, dl, ss⟩ : Dv).nm, .int .i64 (⟨nm, dl, ss⟩ : Dv).dl, .slice A n c], .int .i64 0, .int .i64 0]) ∧ n = (⟨nm, dl, ss⟩ : Dv).ss.length ∧ n ≤ c ∧ Df.Steps w' w'.heap.size A (⟨nm, dl, ss⟩ : Dv).ss ∧ Below W.heap.size W w') := Lib.hid fun A c W hb => by
        have h := take_is (defF nm dl ss) (by rw [HLf.out]; have := HLr.out; have := HM.out.1; omega) A c W hb
        rw [defA_put (by rw [HK.out]; exact decide_eq_true hev) HFi.out.1 HFi.out.2] at h
        rw [HN2.out]
        exact h
      clear hev HK
      go_wp2_with fail
      refine (HTd.out A2 c2 _ HYb.out).mono ?_
      rintro e w7 ⟨A6, n6, c6, rfl, hn6, hc6, hS6, b7⟩
      have HXc := Lib.hid ((HXb.out.below b7 HXb.out.lt).alloc (.cells #[.string nm, .int .i64 dl, .slice A6 n6 c6] 24))
      have HWc' := HWb.out.trans (b7.mono HWb.out.size)
      have HWc := Lib.hid (HWc'.alloc HWc'.size (.cells #[.string nm, .int .i64 dl, .slice A6 n6 c6] 24))
      have HXd := Lib.hid (Box.new w7 24 #[.string nm, .int .i64 dl, .slice A6 n6 c6])
      have HN6 := Lib.hid hn6
      have HS6 := Lib.hid (hS6.on ((Below.refl w7.heap.size w7).alloc (Nat.le_refl _) (.cells #[.string nm, .int .i64 dl, .slice A6 n6 c6] 24)))
      clear b7 hn6 hc6 hS6 HWc' HTd HXb HWb HYb
      go_upto_region 16 with fail
      generalize w7.alloc (.cells #[.string nm, .int .i64 dl, .slice A6 n6 c6] 24) = V7 at *
      obtain ⟨d0, d1, d2⟩ := dfc HXc.out
      obtain ⟨f0, f1, f2⟩ := dfc HXd.out
      have HSb : Hid (Calls Try.prog 13 #[.agg #[.string nm, .int .i64 dl, .slice A6 n6 c6], .agg #[.string nm, .int .i64 dl, .slice A n c]] V7 fun e w' => e = .returned (.bool true) ∧ Made V7 w') := Lib.hid (by
        have h := rsame_any nm nm dl dl A6 A c6 c ss ss n6 n V7 HN6.out HN.out (by have h1 := HN6.out; have h2 := HN.out; omega) (by omega) HS6.out (HS.out.on HWc.out)
        rw [same_yes] at h
        exact h)
      go_wp2_with fail
      refine HSb.out.mono ?_
      rintro e w8 ⟨rfl, hm8⟩
      have HW9 := Lib.hid (HWc.out.trans (hm8.below.mono HWc.out.size))
      clear hm8
      go_wp2
      go_ret
      exact ⟨rfl, HW9.out⟩

set_option maxRecDepth 100000 in
theorem lifted (os : Os) (started : os.Started) (H : Type) (enc : TypeId × Value → H) :
    ReturnsInHanded {} Try.checked os 3 .any (Rows.codeDefsSpec.pre6 enc Try.prog Try.f3 Rows.codeDefsRow.domain false) (Rows.codeDefsSpec.post enc Try.prog Try.f3 false true false false) := by
  refine returnsInHanded_of_change_sized (C := Try.checked) own started (by kernel_rfl) Try.func3
    (ChangeSpec.witness6 (enc := enc) (C := Try.checked) false ⟨#[], #[.agg #[.string ⟨#[]⟩, .int .i64 0, .slice none 0 0], .slice none 0 0], []⟩ 8 (by kernel_rfl) (by kernel_rfl) (by kernel_rfl) (by kernel_rfl)) ?_
  intro W base args ds gs before hval0 hW _ _ _
  have hval : ∀ (j : Nat) t v, Try.f3.params[j]? = some t → args[j]? = some v → Value.okWide Try.prog W .any base t v := hval0
  have hW' := hW
  obtain ⟨p, q, hA0, hV, rfl, _, _⟩ := hW
  have hA : DataW.TrodAll enc Try.prog W 0 (fun _ => true) true Try.f3.params.toList args.toList ds p := hA0
  rw [Try.params3] at hA hval
  obtain ⟨rfl, rfl⟩ := trodVars_none hV
  obtain ⟨v0, vs0, d0, ds0, p0, q0, hargs, rfl, rfl, h0, r0⟩ := trodAll_cons hA
  obtain ⟨v1, vs1, d1, ds1, p1, q1, rfl, rfl, rfl, h1, r1⟩ := trodAll_cons r0
  obtain ⟨rfl, rfl, rfl⟩ := trodAll_nil r1
  obtain rfl : args = #[v0, v1] := by cases args; simp_all
  obtain ⟨nm0, dl0, A0, c0, ss0, y0, z0, n0, cc0, f0, e0, u0⟩ := arg_def (hval 0 24 v0 rfl rfl) h0
  obtain ⟨a1, len1, cap1, rfl⟩ := okWide_slice Try.underlying25 (hval 1 25 v1 rfl rfl)
  clear hA0 hval0
  simp only [List.append_nil] at hW'
  have hlt0 : ∀ x ∈ p0, x.block < W.heap.size := fun x hx => by simpa using hW'.lt x (by simp [hx])
  have hlt1 : ∀ x ∈ p1, x.block < W.heap.size := fun x hx => by simpa using hW'.lt x (by simp [hx])
  subst y0
  obtain ⟨l1, hl1, hc1, hm1, hb1⟩ := arg_bytes h1
  subst hl1
  refine (walk nm0 dl0 A0 ss0.length c0 ss0 a1 l1 cap1 W rfl z0 n0 cc0 f0 e0 hm1 hb1).mono fun e W' ⟨he, bel⟩ => ?_
  subst he
  exact ⟨_, rfl, _, _, _, [], _, [], hW', trodAll_mk1 (shut_bool Try.underlying4 _), (trodAll_cons_mk (Below.trod laidOut (by kernel_rfl) (of_decide_eq_true (by kernel_rfl)) h0 bel hlt0) (trodAll_cons_mk (Below.trod laidOut (by kernel_rfl) (of_decide_eq_true (by kernel_rfl)) h1 bel hlt1) trodAll_mk0)), rfl, bel.frame _, fun h => by cases h⟩

/-- the statement -/
theorem proved : Rows.CodeDefsSaid :=
  OpenClaim.holds_of_wide 3 Try.f3 rfl rfl rfl rfl rfl rfl rfl ⟨rfl, rfl, rfl, rfl, rfl⟩ rfl rfl rfl rfl rfl (by kernel_rfl) Try.func3 (by kernel_rfl)
    (of_decide_eq_true (by kernel_rfl)) (by unfold Func.isWrapper; first | (rw [if_pos (by decide +kernel)]; kernel_rfl) | (rw [if_neg (by decide +kernel)]; exact ⟨rfl, rfl⟩))
    (fun os started H enc _ => lifted os started H enc)
#print axioms proved

end Go.Proofs.Ytihkadbcjeohjaa.codeDefs
