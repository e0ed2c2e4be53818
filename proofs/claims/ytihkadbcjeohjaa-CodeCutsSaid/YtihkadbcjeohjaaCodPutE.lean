/-
  The program's PutEvent.
  Conditions: the steps lie in memory; texts are of a moderate size.
-/
import Derived.Test.YtihkadbcjeohjaaCodGood
import Derived.Test.YtihkadbcjeohjaaCodPuts
namespace Go.Proofs.Ytihkadbcjeohjaa.Co
open Go.RowKit
open Go.Proofs.Ytihkadbcjeohjaa.El
open Go.Proofs.Ytihkadbcjeohjaa.Df
open Go.Proofs.Ytihkadbcjeohjaa.Bo (P Made ret_int ret_bool)
open Go.Proofs.Ytihkadbcjeohjaa.Sa (Sg Rp)

theorem wr_new1 (w : World) : Wr (w.alloc (.cells #[.slice none 0 0] 71)) w.heap.size w.heap.size [] :=
  ⟨Nat.le_refl _, .slice none 0 0, 71, by decide, Box.new w 71 #[.slice none 0 0], World.ownsRow_nil _ _ _ _⟩
/-- what PutEvent answers of a right event -/
def PutTo (w : World) (L : List UInt8) (e : Ending) (w' : World) : Prop := ∃ A c, e = .returned (.tuple #[.slice A L.length c, .int .i64 0]) ∧ L.length ≤ c ∧ Byt w' w'.heap.size A L ∧ Below w.heap.size w w'
theorem restF_len (v : Ev) (hM : Mod v.dn v.ss) (hn : v.nm.size ≤ 1000000) : (restF v).length ≤ 3000000000 := by
  have h1 := hM.le
  have h2 := hM.1
  unfold restF
  split
  · rw [defF_len]; omega
  · split
    · rw [tF_len]; omega
    · split
      · show 26 ≤ _; omega
      · exact Nat.zero_le _
theorem eventF_len (v : Ev) : (eventF v).length = 24 + (restF v).length := by
  unfold eventF
  simp only [List.length_append, nF_len]
  omega
set_option maxHeartbeats 2000000 in
set_option maxRecDepth 100000 in
theorem putEvent_no (v : Ev) (A : Option Addr) (n c : Nat) (w : World) (h : EvIn w v A n c) (hg : goodE v = false) :
    Calls Try.prog 24 #[.agg #[.int .i64 v.k, .int .i64 v.now, .int .i64 v.sg, .string v.nm, .int .i64 v.r.sg, .int .i64 v.r.sp, .bool v.r.un, .int .i64 v.r.tr, .bool v.r.good, .string v.dn, .int .i64 v.dl, .slice A n c]] w fun e w' => e = .returned (.tuple #[.slice none 0 0, .int .i64 3]) ∧ Below w.heap.size w w' := by
  have HW := Lib.hid ((Below.refl w.heap.size w).alloc (Nat.le_refl _) (.cells #[.int .i64 v.k, .int .i64 v.now, .int .i64 v.sg, .string v.nm, .int .i64 v.r.sg, .int .i64 v.r.sp, .bool v.r.un, .int .i64 v.r.tr, .bool v.r.good, .string v.dn, .int .i64 v.dl, .slice A n c] 51))
  have HX := Lib.hid (Box.new w 51 #[.int .i64 v.k, .int .i64 v.now, .int .i64 v.sg, .string v.nm, .int .i64 v.r.sg, .int .i64 v.r.sp, .bool v.r.un, .int .i64 v.r.tr, .bool v.r.good, .string v.dn, .int .i64 v.dl, .slice A n c])
  have HG := Lib.hid (good_ev v A n c (w.alloc (.cells #[.int .i64 v.k, .int .i64 v.now, .int .i64 v.sg, .string v.nm, .int .i64 v.r.sg, .int .i64 v.r.sp, .bool v.r.un, .int .i64 v.r.tr, .bool v.r.good, .string v.dn, .int .i64 v.dl, .slice A n c] 51)) (h.on HW.out))
  rw [hg] at HG
  clear h hg
  go_enter Try.func24, Try.ntmps24
  go_upto_region 1 with fail
  generalize w.alloc (.cells #[.int .i64 v.k, .int .i64 v.now, .int .i64 v.sg, .string v.nm, .int .i64 v.r.sg, .int .i64 v.r.sp, .bool v.r.un, .int .i64 v.r.tr, .bool v.r.good, .string v.dn, .int .i64 v.dl, .slice A n c] 51) = W0 at *
  obtain ⟨c0, c1, c2, c3, c4, c5, c6, c7, c8, c9, c10, c11⟩ := evc (v := v) HX.out
  go_wp2_with fail
  refine HG.out.mono ?_
  rintro e w1 ⟨rfl, hb⟩
  go_wp2
  go_ret2
  exact ⟨rfl, HW.out.trans (hb.mono HW.out.size)⟩
set_option maxHeartbeats 8000000 in
set_option maxRecDepth 100000 in
theorem putEvent_yes (v : Ev) (A : Option Addr) (n c : Nat) (w : World) (h : EvIn w v A n c) (hg : goodE v = true) :
    Calls Try.prog 24 #[.agg #[.int .i64 v.k, .int .i64 v.now, .int .i64 v.sg, .string v.nm, .int .i64 v.r.sg, .int .i64 v.r.sp, .bool v.r.un, .int .i64 v.r.tr, .bool v.r.good, .string v.dn, .int .i64 v.dl, .slice A n c]] w (PutTo w (eventF v)) := by
  have HW := Lib.hid ((Below.refl w.heap.size w).alloc (Nat.le_refl _) (.cells #[.int .i64 v.k, .int .i64 v.now, .int .i64 v.sg, .string v.nm, .int .i64 v.r.sg, .int .i64 v.r.sp, .bool v.r.un, .int .i64 v.r.tr, .bool v.r.good, .string v.dn, .int .i64 v.dl, .slice A n c] 51))
  have HX := Lib.hid (Box.new w 51 #[.int .i64 v.k, .int .i64 v.now, .int .i64 v.sg, .string v.nm, .int .i64 v.r.sg, .int .i64 v.r.sp, .bool v.r.un, .int .i64 v.r.tr, .bool v.r.good, .string v.dn, .int .i64 v.dl, .slice A n c])
  have HG := Lib.hid (good_ev v A n c (w.alloc (.cells #[.int .i64 v.k, .int .i64 v.now, .int .i64 v.sg, .string v.nm, .int .i64 v.r.sg, .int .i64 v.r.sp, .bool v.r.un, .int .i64 v.r.tr, .bool v.r.good, .string v.dn, .int .i64 v.dl, .slice A n c] 51)) (h.on HW.out))
  have HI0 := Lib.hid h
  have HL := Lib.hid (eventF_len v)
  have HLr := Lib.hid (restF_len v h.mod h.nm)
  rw [hg] at HG
  clear h hg
  go_enter Try.func24, Try.ntmps24
  go_upto_region 1 with fail
  generalize w.alloc (.cells #[.int .i64 v.k, .int .i64 v.now, .int .i64 v.sg, .string v.nm, .int .i64 v.r.sg, .int .i64 v.r.sp, .bool v.r.un, .int .i64 v.r.tr, .bool v.r.good, .string v.dn, .int .i64 v.dl, .slice A n c] 51) = W0 at *
  obtain ⟨c0, c1, c2, c3, c4, c5, c6, c7, c8, c9, c10, c11⟩ := evc (v := v) HX.out
  go_wp2_with fail
  refine HG.out.mono ?_
  rintro e w1 ⟨rfl, hb⟩
  have HW1 := Lib.hid (HW.out.trans (hb.mono HW.out.size))
  have HI := Lib.hid (HI0.out.on HW1.out)
  have HX1 := Lib.hid (HX.out.below hb HX.out.lt)
  have hlt := HX1.out.lt
  clear hb c0 c1 c2 c3 c4 c5 c6 c7 c8 c9 c10 c11 HX HG
  have HR0 := Lib.hid ((WrAt.refl (wr_new1 w1)))
  have HX2 := Lib.hid (HX1.out.alloc (.cells #[.slice none 0 0] 71))
  have HW2 := Lib.hid ((Below.refl w1.heap.size w1).alloc (Nat.le_refl _) (.cells #[.slice none 0 0] 71))
  go_upto_region 4 with fail
  generalize w1.alloc (.cells #[.slice none 0 0] 71) = W2 at *
  obtain ⟨c0, c1, c2, c3, c4, c5, c6, c7, c8, c9, c10, c11⟩ := evc (v := v) HX2.out
  go_wp2_with fail
  refine (nums3_any w1.heap.size w1.heap.size v.k v.now v.sg _ W2 HR0.out.wr (by simp)).mono ?_
  rintro e w2 ⟨rfl, hR⟩
  have HX3 := Lib.hid (hR.kept _ _ _ (show w.heap.size ≠ w1.heap.size by omega) (by decide) HX2.out)
  have HR1 := Lib.hid ((⟨HR0.out.wr, HW2.out, fun i t cs _ _ hb => hb.below HW2.out hb.lt⟩ : WrAt w1 W2 w1.heap.size w1.heap.size []).trans hR)
  clear hR c0 c1 c2 c3 c4 c5 c6 c7 c8 c9 c10 c11 HX1 HX2 HR0 HW2
  obtain ⟨c0, c1, c2, c3, c4, c5, c6, c7, c8, c9, c10, c11⟩ := evc (v := v) HX3.out
  by_cases hk : v.k = 0
  · have HRF : Hid (restF v = defF v.dn v.dl v.ss) := Lib.hid (by unfold restF; rw [if_pos hk])
    have k0 : (v.k == 0) = true := beq_iff_eq.2 (by omega)
    clear hk
    go_wp2_with fail
    refine (wdef_any w1.heap.size w1.heap.size v.dn v.dl A c v.ss n _ w2 HI.out.hn HI.out.mod (HI.out.st.below HR1.out.bel) HR1.out.wr (by simp only [List.length_append, List.length_nil, nF_len]; omega)).mono ?_
    rintro e w3 ⟨rfl, hR⟩
    have HR2 := Lib.hid (HR1.out.trans hR)
    have HR3 := Lib.hid (HR2.out.as (N := eventF v) (by unfold eventF; rw [HRF.out]; simp))
    clear c0 c1 c2 c3 c4 c5 c6 c7 c8 c9 c10 c11 hR HR2
    go_wp2_with fail
    refine (wbytes_any w1.heap.size w1.heap.size (eventF v) _ HR3.out.wr (by have := HL.out; have := HLr.out; omega)).mono ?_
    rintro e w6 ⟨A2, c2, rfl, hc, hy, hb⟩
    have HP : Hid (PutTo w (eventF v) (.returned (.tuple #[.slice A2 (eventF v).length c2, .int .i64 0])) w6) := Lib.hid ⟨A2, c2, rfl, hc, hy, ((HW1.out.trans (HR3.out.bel.mono HW1.out.size)).trans (hb.mono (by have := HR3.out.bel.size; have := HW1.out.size; omega)))⟩
    clear hc hy hb
    go_wp2_with fail
    go_ret2
    exact HP.out
  by_cases hk1 : v.k = 1
  · have HRF : Hid (restF v = tF v.nm) := Lib.hid (by unfold restF; rw [if_neg hk, if_pos hk1])
    have k0 : (v.k == 0) = false := beq_false_of_ne (by omega)
    have k1 : (v.k == 1) = true := beq_iff_eq.2 (by omega)
    clear hk hk1
    go_wp2_with fail
    refine (wtext_at w1.heap.size w1.heap.size v.nm _ w2 HR1.out.wr (by simp only [List.length_append, List.length_nil, nF_len]; omega) (by have := HI.out.nm; omega)).mono ?_
    rintro e w3 ⟨rfl, hR⟩
    have HR2 := Lib.hid (HR1.out.trans hR)
    have HR3 := Lib.hid (HR2.out.as (N := eventF v) (by unfold eventF; rw [HRF.out]; simp))
    clear c0 c1 c2 c3 c4 c5 c6 c7 c8 c9 c10 c11 hR HR2
    go_wp2_with fail
    refine (wbytes_any w1.heap.size w1.heap.size (eventF v) _ HR3.out.wr (by have := HL.out; have := HLr.out; omega)).mono ?_
    rintro e w6 ⟨A2, c2, rfl, hc, hy, hb⟩
    have HP : Hid (PutTo w (eventF v) (.returned (.tuple #[.slice A2 (eventF v).length c2, .int .i64 0])) w6) := Lib.hid ⟨A2, c2, rfl, hc, hy, ((HW1.out.trans (HR3.out.bel.mono HW1.out.size)).trans (hb.mono (by have := HR3.out.bel.size; have := HW1.out.size; omega)))⟩
    clear hc hy hb
    go_wp2_with fail
    go_ret2
    exact HP.out
  by_cases hk3 : v.k = 3
  · have HRF : Hid (restF v = replyF v.r) := Lib.hid (by unfold restF; rw [if_neg hk, if_neg hk1, if_pos hk3])
    have k0 : (v.k == 0) = false := beq_false_of_ne (by omega)
    have k1 : (v.k == 1) = false := beq_false_of_ne (by omega)
    have k3 : (v.k == 3) = true := beq_iff_eq.2 (by omega)
    clear hk hk1 hk3
    go_wp2_with fail
    refine (wreply_any w1.heap.size w1.heap.size v.r _ w2 HR1.out.wr (by simp only [List.length_append, List.length_nil, nF_len]; omega)).mono ?_
    rintro e w3 ⟨rfl, hR⟩
    have HR2 := Lib.hid (HR1.out.trans hR)
    have HR3 := Lib.hid (HR2.out.as (N := eventF v) (by unfold eventF; rw [HRF.out]; simp))
    clear c0 c1 c2 c3 c4 c5 c6 c7 c8 c9 c10 c11 hR HR2
    go_wp2_with fail
    refine (wbytes_any w1.heap.size w1.heap.size (eventF v) _ HR3.out.wr (by have := HL.out; have := HLr.out; omega)).mono ?_
    rintro e w6 ⟨A2, c2, rfl, hc, hy, hb⟩
    have HP : Hid (PutTo w (eventF v) (.returned (.tuple #[.slice A2 (eventF v).length c2, .int .i64 0])) w6) := Lib.hid ⟨A2, c2, rfl, hc, hy, ((HW1.out.trans (HR3.out.bel.mono HW1.out.size)).trans (hb.mono (by have := HR3.out.bel.size; have := HW1.out.size; omega)))⟩
    clear hc hy hb
    go_wp2_with fail
    go_ret2
    exact HP.out
  have HRF : Hid (restF v = []) := Lib.hid (by unfold restF; rw [if_neg hk, if_neg hk1, if_neg hk3])
  have k0 : (v.k == 0) = false := beq_false_of_ne (by omega)
  have k1 : (v.k == 1) = false := beq_false_of_ne (by omega)
  have k3 : (v.k == 3) = false := beq_false_of_ne (by omega)
  clear hk hk1 hk3
  have HR2 := HR1
  have HR3 := Lib.hid (HR2.out.as (N := eventF v) (by unfold eventF; rw [HRF.out]; simp))
  clear HR2
  go_wp2_with fail
  refine (wbytes_any w1.heap.size w1.heap.size (eventF v) _ HR3.out.wr (by have := HL.out; have := HLr.out; omega)).mono ?_
  rintro e w6 ⟨A2, c2, rfl, hc, hy, hb⟩
  have HP : Hid (PutTo w (eventF v) (.returned (.tuple #[.slice A2 (eventF v).length c2, .int .i64 0])) w6) := Lib.hid ⟨A2, c2, rfl, hc, hy, ((HW1.out.trans (HR3.out.bel.mono HW1.out.size)).trans (hb.mono (by have := HR3.out.bel.size; have := HW1.out.size; omega)))⟩
  clear hc hy hb
  go_wp2_with fail
  go_ret2
  exact HP.out
end Go.Proofs.Ytihkadbcjeohjaa.Co
