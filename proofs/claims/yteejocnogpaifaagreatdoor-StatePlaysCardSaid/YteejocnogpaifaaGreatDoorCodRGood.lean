/-
  The document's own Good of events.
  Conditions: the steps lie in memory; texts are of a moderate size.
-/
import Derived.Test.YteejocnogpaifaaGreatDoorCodGood
import Derived.Test.YteejocnogpaifaaGreatDoorDefRCheck
namespace Go.Proofs.YteejocnogpaifaaGreatDoor.Co
open Go.RowKit
open Go.Proofs.YteejocnogpaifaaGreatDoor.El
open Go.Proofs.YteejocnogpaifaaGreatDoor.Df
open Go.Proofs.YteejocnogpaifaaGreatDoor.Bo (P Made ret_int ret_bool)
open Go.Proofs.YteejocnogpaifaaGreatDoor.Sa (Sg Rp)

section
variable {v : Ev}
theorem goodE_out (h : v.k < 0 ∨ 10 < v.k ∨ v.now < 0 ∨ 1099511627776 < v.now ∨ v.sg < 0) : goodE v = false := by
  cases hg : goodE v with
  | false => rfl
  | true =>
    obtain ⟨⟨a, b⟩, ⟨c, d⟩, e, _⟩ := good_parts hg
    omega
theorem goodE_in (h1 : ¬ v.k < 0) (h2 : ¬ 10 < v.k) (h3 : ¬ v.now < 0) (h4 : ¬ 1099511627776 < v.now) (h5 : ¬ v.sg < 0) : goodE v = (nameG v && defG v && replyG v) := by
  unfold goodE kindG
  rw [decide_eq_true (p := 0 ≤ v.k) (by omega), decide_eq_true (p := v.k ≤ 10) (by omega), decide_eq_true (p := 0 ≤ v.now) (by omega), decide_eq_true (p := v.now ≤ 1099511627776) (by omega), decide_eq_true (p := 0 ≤ v.sg) (by omega)]
  rfl
theorem nameG_1 (h : v.k = 1) : nameG v = nameB v.nm.data.toList := by unfold nameG; rw [if_pos h]
theorem nameG_n (h : v.k ≠ 1) : nameG v = decide (v.nm = tx0) := by unfold nameG; rw [if_neg h]
theorem defG_0 (h : v.k = 0) : defG v = (decide (v.sg = 0) && rightB v.dn v.dl v.ss) := by unfold defG; rw [if_pos h]
theorem defG_n (h : v.k ≠ 0) : defG v = (decide (v.dn = tx0) && (decide (v.dl = 0) && decide (v.ss = []))) := by unfold defG sameB; rw [if_neg h]
theorem replyG_3 (h : v.k = 3) : replyG v = (decide (0 ≤ v.r.sg) && decide (0 ≤ v.r.sp) && decide (0 ≤ v.r.tr)) := by unfold replyG; rw [if_pos h]
theorem replyG_n (h : v.k ≠ 3) : replyG v = eqRp v.r rp0 := by unfold replyG; rw [if_neg h]
end
theorem empty_is (t : ByteArray) : t.toList.isEmpty = decide (t = tx0) := by
  rw [ByteArray.toList_eq]
  by_cases h : t = tx0
  · rw [decide_eq_true h, h]
    rfl
  · rw [decide_eq_false h]
    cases hl : t.data.toList with
    | nil => exact absurd (ByteArray.ext (Array.toList_inj.1 hl)) h
    | cons a b => rfl
theorem empty_beq (t : ByteArray) : (t.toList == ([] : List UInt8)) = decide (t = tx0) := by
  have h := bytes_beq t tx0
  rw [ByteArray.toList_eq tx0] at h
  exact h
set_option maxHeartbeats 16000000 in
set_option maxRecDepth 100000 in
theorem rgoodE_any (v : Ev) (A : Option Addr) (n c : Nat) (w : World) (h : EvIn w v A n c) : Calls Tryz.prog 21 #[.agg #[.int .i64 v.k, .int .i64 v.now, .int .i64 v.sg, .string v.nm, .int .i64 v.r.sg, .int .i64 v.r.sp, .bool v.r.un, .int .i64 v.r.tr, .bool v.r.good, .string v.dn, .int .i64 v.dl, .slice A n c]] w fun e w' => e = .returned (.bool (goodE v)) ∧ Below w.heap.size w w' := by
  have HW := Lib.hid ((Below.refl w.heap.size w).alloc (Nat.le_refl _) (.cells #[.int .i64 v.k, .int .i64 v.now, .int .i64 v.sg, .string v.nm, .int .i64 v.r.sg, .int .i64 v.r.sp, .bool v.r.un, .int .i64 v.r.tr, .bool v.r.good, .string v.dn, .int .i64 v.dl, .slice A n c] 35))
  have HX := Lib.hid (Box.new w 35 #[.int .i64 v.k, .int .i64 v.now, .int .i64 v.sg, .string v.nm, .int .i64 v.r.sg, .int .i64 v.r.sp, .bool v.r.un, .int .i64 v.r.tr, .bool v.r.good, .string v.dn, .int .i64 v.dl, .slice A n c])
  have HI := Lib.hid h
  have hne : ∀ u, (binOp .neq 30 (.agg #[.int .i64 v.r.sg, .int .i64 v.r.sp, .bool v.r.un, .int .i64 v.r.tr, .bool v.r.good]) (.agg #[.int .i64 0, .int .i64 0, .bool false, .int .i64 0, .bool false])).run Tryz.prog u = .ok (.bool (!eqRp v.r rp0)) u := fun u => neq_reply v.r rp0 u
  have hgd := guard_reply
  have HN := Lib.hid h.hn
  clear h
  by_cases h1 : v.k < 0
  · have HQ : Hid (goodE v = false) := Lib.hid (goodE_out (by omega))
    (try clear hk0)
    (try clear hk1)
    (try clear hk3)
    go_enter Tryz.func21, Tryz.ntmps21
    go_upto_region 1 with fail
    generalize w.alloc (.cells #[.int .i64 v.k, .int .i64 v.now, .int .i64 v.sg, .string v.nm, .int .i64 v.r.sg, .int .i64 v.r.sp, .bool v.r.un, .int .i64 v.r.tr, .bool v.r.good, .string v.dn, .int .i64 v.dl, .slice A n c] 35) = W0 at *
    obtain ⟨c0, c1, c2, c3, c4, c5, c6, c7, c8, c9, c10, c11⟩ := evc (v := v) HX.out
    go_wp2
    go_ret
    exact ⟨by rw [HQ.out]; rfl, HW.out⟩
  by_cases h2 : 10 < v.k
  · have HQ : Hid (goodE v = false) := Lib.hid (goodE_out (by omega))
    (try clear hk0)
    (try clear hk1)
    (try clear hk3)
    go_enter Tryz.func21, Tryz.ntmps21
    go_upto_region 1 with fail
    generalize w.alloc (.cells #[.int .i64 v.k, .int .i64 v.now, .int .i64 v.sg, .string v.nm, .int .i64 v.r.sg, .int .i64 v.r.sp, .bool v.r.un, .int .i64 v.r.tr, .bool v.r.good, .string v.dn, .int .i64 v.dl, .slice A n c] 35) = W0 at *
    obtain ⟨c0, c1, c2, c3, c4, c5, c6, c7, c8, c9, c10, c11⟩ := evc (v := v) HX.out
    go_wp2
    go_ret
    exact ⟨by rw [HQ.out]; rfl, HW.out⟩
  by_cases h3 : v.now < 0
  · have HQ : Hid (goodE v = false) := Lib.hid (goodE_out (by omega))
    (try clear hk0)
    (try clear hk1)
    (try clear hk3)
    go_enter Tryz.func21, Tryz.ntmps21
    go_upto_region 1 with fail
    generalize w.alloc (.cells #[.int .i64 v.k, .int .i64 v.now, .int .i64 v.sg, .string v.nm, .int .i64 v.r.sg, .int .i64 v.r.sp, .bool v.r.un, .int .i64 v.r.tr, .bool v.r.good, .string v.dn, .int .i64 v.dl, .slice A n c] 35) = W0 at *
    obtain ⟨c0, c1, c2, c3, c4, c5, c6, c7, c8, c9, c10, c11⟩ := evc (v := v) HX.out
    go_wp2
    go_ret
    exact ⟨by rw [HQ.out]; rfl, HW.out⟩
  by_cases h4 : 1099511627776 < v.now
  · have HQ : Hid (goodE v = false) := Lib.hid (goodE_out (by omega))
    (try clear hk0)
    (try clear hk1)
    (try clear hk3)
    go_enter Tryz.func21, Tryz.ntmps21
    go_upto_region 1 with fail
    generalize w.alloc (.cells #[.int .i64 v.k, .int .i64 v.now, .int .i64 v.sg, .string v.nm, .int .i64 v.r.sg, .int .i64 v.r.sp, .bool v.r.un, .int .i64 v.r.tr, .bool v.r.good, .string v.dn, .int .i64 v.dl, .slice A n c] 35) = W0 at *
    obtain ⟨c0, c1, c2, c3, c4, c5, c6, c7, c8, c9, c10, c11⟩ := evc (v := v) HX.out
    go_wp2
    go_ret
    exact ⟨by rw [HQ.out]; rfl, HW.out⟩
  by_cases h5 : v.sg < 0
  · have HQ : Hid (goodE v = false) := Lib.hid (goodE_out (by omega))
    (try clear hk0)
    (try clear hk1)
    (try clear hk3)
    go_enter Tryz.func21, Tryz.ntmps21
    go_upto_region 1 with fail
    generalize w.alloc (.cells #[.int .i64 v.k, .int .i64 v.now, .int .i64 v.sg, .string v.nm, .int .i64 v.r.sg, .int .i64 v.r.sp, .bool v.r.un, .int .i64 v.r.tr, .bool v.r.good, .string v.dn, .int .i64 v.dl, .slice A n c] 35) = W0 at *
    obtain ⟨c0, c1, c2, c3, c4, c5, c6, c7, c8, c9, c10, c11⟩ := evc (v := v) HX.out
    go_wp2
    go_ret
    exact ⟨by rw [HQ.out]; rfl, HW.out⟩
  by_cases hk0 : v.k = 0
  · have b0 : (v.k == 0) = true := beq_iff_eq.2 hk0
    have m0 : (v.k != 0) = false := by unfold bne; rw [b0]; rfl
    have b1 : (v.k == 1) = false := beq_false_of_ne (by omega)
    have m1 : (v.k != 1) = true := by unfold bne; rw [b1]; rfl
    have b3 : (v.k == 3) = false := beq_false_of_ne (by omega)
    have m3 : (v.k != 3) = true := by unfold bne; rw [b3]; rfl
    by_cases n1 : v.nm = tx0
    rotate_left
    · have bn1 : (v.nm.toList == ([] : List UInt8)) = false := by rw [empty_beq, decide_eq_false n1]
      have in1 : v.nm.toList.isEmpty = false := by rw [empty_is, decide_eq_false n1]
      have mn1 : (v.nm.toList != ([] : List UInt8)) = true := by unfold bne; rw [bn1]; rfl
      have HQ : Hid (goodE v = false) := Lib.hid (by rw [goodE_in h1 h2 h3 h4 h5, nameG_n (by omega), decide_eq_false n1]; simp)
      clear n1
      (try clear hk0)
      (try clear hk1)
      (try clear hk3)
      go_enter Tryz.func21, Tryz.ntmps21
      go_upto_region 1 with fail
      generalize w.alloc (.cells #[.int .i64 v.k, .int .i64 v.now, .int .i64 v.sg, .string v.nm, .int .i64 v.r.sg, .int .i64 v.r.sp, .bool v.r.un, .int .i64 v.r.tr, .bool v.r.good, .string v.dn, .int .i64 v.dl, .slice A n c] 35) = W0 at *
      obtain ⟨c0, c1, c2, c3, c4, c5, c6, c7, c8, c9, c10, c11⟩ := evc (v := v) HX.out
      go_wp2
      go_ret
      exact ⟨by rw [HQ.out]; rfl, HW.out⟩
    have bn1 : (v.nm.toList == ([] : List UInt8)) = true := by rw [empty_beq, decide_eq_true n1]
    have in1 : v.nm.toList.isEmpty = true := by rw [empty_is, decide_eq_true n1]
    have mn1 : (v.nm.toList != ([] : List UInt8)) = false := by unfold bne; rw [bn1]; rfl
    have Hn1 := Lib.hid n1
    clear n1
    cases r1 : eqRp v.r rp0 with
    | false =>
      have hne1 := hne
      rw [r1] at hne1
      have HQ : Hid (goodE v = false) := Lib.hid (by rw [goodE_in h1 h2 h3 h4 h5, replyG_n (by omega), r1]; simp)
      clear r1 hne
      (try clear hk0)
      (try clear hk1)
      (try clear hk3)
      go_enter Tryz.func21, Tryz.ntmps21
      go_upto_region 1 with fail
      generalize w.alloc (.cells #[.int .i64 v.k, .int .i64 v.now, .int .i64 v.sg, .string v.nm, .int .i64 v.r.sg, .int .i64 v.r.sp, .bool v.r.un, .int .i64 v.r.tr, .bool v.r.good, .string v.dn, .int .i64 v.dl, .slice A n c] 35) = W0 at *
      obtain ⟨c0, c1, c2, c3, c4, c5, c6, c7, c8, c9, c10, c11⟩ := evc (v := v) HX.out
      go_upto_region 8 with fail
      have HBL := Lib.hid (HW.out.alloc HW.out.size (.cells #[.int .i64 0, .int .i64 0, .bool false, .int .i64 0, .bool false] 30))
      have HX1 := Lib.hid (HX.out.alloc (.cells #[.int .i64 0, .int .i64 0, .bool false, .int .i64 0, .bool false] 30))
      have HZ1 := Lib.hid (Box.new W0 30 #[.int .i64 0, .int .i64 0, .bool false, .int .i64 0, .bool false])
      clear c0 c1 c2 c3 c4 c5 c6 c7 c8 c9 c10 c11
      generalize W0.alloc (.cells #[.int .i64 0, .int .i64 0, .bool false, .int .i64 0, .bool false] 30) = W1 at *
      obtain ⟨c0, c1, c2, c3, c4, c5, c6, c7, c8, c9, c10, c11⟩ := evc (v := v) HX1.out
      have z0 : W1.cell? ⟨W0.heap.size, 0, none⟩ = some (.int .i64 0) := HZ1.out.cell 0
      have z1 : W1.cell? ⟨W0.heap.size, 1, none⟩ = some (.int .i64 0) := HZ1.out.cell 1
      have z2 : W1.cell? ⟨W0.heap.size, 2, none⟩ = some (.bool false) := HZ1.out.cell 2
      have z3 : W1.cell? ⟨W0.heap.size, 3, none⟩ = some (.int .i64 0) := HZ1.out.cell 3
      have z4 : W1.cell? ⟨W0.heap.size, 4, none⟩ = some (.bool false) := HZ1.out.cell 4
      go_wp2
      go_ret
      exact ⟨by rw [HQ.out]; rfl, HBL.out⟩
    | true =>
      have hne1 := hne
      rw [r1] at hne1
      have Hr1 := Lib.hid r1
      clear r1 hne
      have HC := Lib.hid (fun W hb => rcheck_any v.dn v.dl A c v.ss n W HI.out.hn (by have := HI.out.mod.2.1; have := HI.out.hn; omega) ((HI.out.on hb).st) (by have := HI.out.mod.1; omega) (fun s hs => by have := HI.out.mod.2.2 s hs; omega))
      have HGE : Hid (goodE v = (decide (v.sg = 0) && rightB v.dn v.dl v.ss)) := Lib.hid (by rw [goodE_in h1 h2 h3 h4 h5, nameG_n (by omega), decide_eq_true Hn1.out, defG_0 hk0, replyG_n (by omega), Hr1.out]; simp)
      (try clear hk0)
      (try clear hk1)
      (try clear hk3)
      go_enter Tryz.func21, Tryz.ntmps21
      go_upto_region 1 with fail
      generalize w.alloc (.cells #[.int .i64 v.k, .int .i64 v.now, .int .i64 v.sg, .string v.nm, .int .i64 v.r.sg, .int .i64 v.r.sp, .bool v.r.un, .int .i64 v.r.tr, .bool v.r.good, .string v.dn, .int .i64 v.dl, .slice A n c] 35) = W0 at *
      obtain ⟨c0, c1, c2, c3, c4, c5, c6, c7, c8, c9, c10, c11⟩ := evc (v := v) HX.out
      go_upto_region 8 with fail
      have HBL := Lib.hid (HW.out.alloc HW.out.size (.cells #[.int .i64 0, .int .i64 0, .bool false, .int .i64 0, .bool false] 30))
      have HX1 := Lib.hid (HX.out.alloc (.cells #[.int .i64 0, .int .i64 0, .bool false, .int .i64 0, .bool false] 30))
      have HZ1 := Lib.hid (Box.new W0 30 #[.int .i64 0, .int .i64 0, .bool false, .int .i64 0, .bool false])
      clear c0 c1 c2 c3 c4 c5 c6 c7 c8 c9 c10 c11
      generalize W0.alloc (.cells #[.int .i64 0, .int .i64 0, .bool false, .int .i64 0, .bool false] 30) = W1 at *
      obtain ⟨c0, c1, c2, c3, c4, c5, c6, c7, c8, c9, c10, c11⟩ := evc (v := v) HX1.out
      have z0 : W1.cell? ⟨W0.heap.size, 0, none⟩ = some (.int .i64 0) := HZ1.out.cell 0
      have z1 : W1.cell? ⟨W0.heap.size, 1, none⟩ = some (.int .i64 0) := HZ1.out.cell 1
      have z2 : W1.cell? ⟨W0.heap.size, 2, none⟩ = some (.bool false) := HZ1.out.cell 2
      have z3 : W1.cell? ⟨W0.heap.size, 3, none⟩ = some (.int .i64 0) := HZ1.out.cell 3
      have z4 : W1.cell? ⟨W0.heap.size, 4, none⟩ = some (.bool false) := HZ1.out.cell 4
      go_wp2_with fail
      refine (HC.out _ HBL.out).mono ?_
      rintro e w1 ⟨k', ev, rfl, hck, hb⟩
      have HK := Lib.hid (chk_right hck)
      have HWx := Lib.hid (HBL.out.trans (hb.mono HBL.out.size))
      have c2x := (HX1.out.below hb HX1.out.lt).cell 2
      simp only [List.getElem?_toArray, List.getElem?_cons_zero, List.getElem?_cons_succ] at c2x
      clear hck hb c0 c1 c2 c3 c4 c5 c6 c7 c8 c9 c10 c11 z0 z1 z2 z3 z4
      by_cases he : ev = 0
      · have g : (ev == 0) = true := by simp [he]
        by_cases hs : v.sg = 0
        · have gs : (v.sg == 0) = true := by simp [hs]
          have HQ : Hid (goodE v = true) := Lib.hid (by rw [HGE.out, HK.out, he, hs]; rfl)
          clear he hs
          go_wp2
          go_ret
          exact ⟨by rw [HQ.out]; rfl, HWx.out⟩
        · have gs : (v.sg == 0) = false := by simpa using hs
          have HQ : Hid (goodE v = false) := Lib.hid (by rw [HGE.out, decide_eq_false hs]; rfl)
          clear he hs
          go_wp2
          go_ret
          exact ⟨by rw [HQ.out]; rfl, HWx.out⟩
      · have g : (ev == 0) = false := by simpa using he
        have HQ : Hid (goodE v = false) := Lib.hid (by rw [HGE.out, HK.out, decide_eq_false he]; simp)
        clear he
        go_wp2
        go_ret
        exact ⟨by rw [HQ.out]; rfl, HWx.out⟩
  by_cases hk1 : v.k = 1
  · have b0 : (v.k == 0) = false := beq_false_of_ne (by omega)
    have m0 : (v.k != 0) = true := by unfold bne; rw [b0]; rfl
    have b1 : (v.k == 1) = true := beq_iff_eq.2 hk1
    have m1 : (v.k != 1) = false := by unfold bne; rw [b1]; rfl
    have b3 : (v.k == 3) = false := beq_false_of_ne (by omega)
    have m3 : (v.k != 3) = true := by unfold bne; rw [b3]; rfl
    by_cases d1 : v.dn = tx0
    rotate_left
    · have bd1 : (v.dn.toList == ([] : List UInt8)) = false := by rw [empty_beq, decide_eq_false d1]
      have id1 : v.dn.toList.isEmpty = false := by rw [empty_is, decide_eq_false d1]
      have md1 : (v.dn.toList != ([] : List UInt8)) = true := by unfold bne; rw [bd1]; rfl
      have HQ : Hid (goodE v = false) := Lib.hid (by rw [goodE_in h1 h2 h3 h4 h5, defG_n (by omega), decide_eq_false d1]; simp)
      clear d1
      (try clear hk0)
      (try clear hk1)
      (try clear hk3)
      go_enter Tryz.func21, Tryz.ntmps21
      go_upto_region 1 with fail
      generalize w.alloc (.cells #[.int .i64 v.k, .int .i64 v.now, .int .i64 v.sg, .string v.nm, .int .i64 v.r.sg, .int .i64 v.r.sp, .bool v.r.un, .int .i64 v.r.tr, .bool v.r.good, .string v.dn, .int .i64 v.dl, .slice A n c] 35) = W0 at *
      obtain ⟨c0, c1, c2, c3, c4, c5, c6, c7, c8, c9, c10, c11⟩ := evc (v := v) HX.out
      go_wp2
      go_ret
      exact ⟨by rw [HQ.out]; rfl, HW.out⟩
    have bd1 : (v.dn.toList == ([] : List UInt8)) = true := by rw [empty_beq, decide_eq_true d1]
    have id1 : v.dn.toList.isEmpty = true := by rw [empty_is, decide_eq_true d1]
    have md1 : (v.dn.toList != ([] : List UInt8)) = false := by unfold bne; rw [bd1]; rfl
    have Hd1 := Lib.hid d1
    clear d1
    by_cases d2 : v.dl = 0
    rotate_left
    · have bd2 : (v.dl == 0) = false := beq_false_of_ne d2
      have md2 : (v.dl != 0) = true := by unfold bne; rw [bd2]; rfl
      have HQ : Hid (goodE v = false) := Lib.hid (by rw [goodE_in h1 h2 h3 h4 h5, defG_n (by omega), decide_eq_false d2]; simp)
      clear d2
      (try clear hk0)
      (try clear hk1)
      (try clear hk3)
      go_enter Tryz.func21, Tryz.ntmps21
      go_upto_region 1 with fail
      generalize w.alloc (.cells #[.int .i64 v.k, .int .i64 v.now, .int .i64 v.sg, .string v.nm, .int .i64 v.r.sg, .int .i64 v.r.sp, .bool v.r.un, .int .i64 v.r.tr, .bool v.r.good, .string v.dn, .int .i64 v.dl, .slice A n c] 35) = W0 at *
      obtain ⟨c0, c1, c2, c3, c4, c5, c6, c7, c8, c9, c10, c11⟩ := evc (v := v) HX.out
      go_wp2
      go_ret
      exact ⟨by rw [HQ.out]; rfl, HW.out⟩
    have bd2 : (v.dl == 0) = true := beq_iff_eq.2 d2
    have md2 : (v.dl != 0) = false := by unfold bne; rw [bd2]; rfl
    have Hd2 := Lib.hid d2
    clear d2
    by_cases d3 : v.ss = []
    rotate_left
    · have bd3 : decide ((0 : Int) < (n : Int)) = true := by have : v.ss.length ≠ 0 := fun e => d3 (List.eq_nil_of_length_eq_zero e); exact decide_eq_true (by have := HN.out; omega)
      have ld3 : 0 < n := by have : v.ss.length ≠ 0 := fun e => d3 (List.eq_nil_of_length_eq_zero e); have := HN.out; omega
      have HQ : Hid (goodE v = false) := Lib.hid (by rw [goodE_in h1 h2 h3 h4 h5, defG_n (by omega), decide_eq_false d3]; simp)
      clear d3
      (try clear hk0)
      (try clear hk1)
      (try clear hk3)
      go_enter Tryz.func21, Tryz.ntmps21
      go_upto_region 1 with fail
      generalize w.alloc (.cells #[.int .i64 v.k, .int .i64 v.now, .int .i64 v.sg, .string v.nm, .int .i64 v.r.sg, .int .i64 v.r.sp, .bool v.r.un, .int .i64 v.r.tr, .bool v.r.good, .string v.dn, .int .i64 v.dl, .slice A n c] 35) = W0 at *
      obtain ⟨c0, c1, c2, c3, c4, c5, c6, c7, c8, c9, c10, c11⟩ := evc (v := v) HX.out
      go_wp2
      go_ret
      exact ⟨by rw [HQ.out]; rfl, HW.out⟩
    have bd3 : decide ((0 : Int) < (n : Int)) = false := decide_eq_false (by have h0 : v.ss.length = 0 := (by rw [d3]; rfl); have := HN.out; omega)
    have ld3 : ¬ 0 < n := by have h0 : v.ss.length = 0 := (by rw [d3]; rfl); have := HN.out; omega
    have Hd3 := Lib.hid d3
    clear d3
    cases r1 : eqRp v.r rp0 with
    | false =>
      have hne1 := hne
      rw [r1] at hne1
      have HQ : Hid (goodE v = false) := Lib.hid (by rw [goodE_in h1 h2 h3 h4 h5, replyG_n (by omega), r1]; simp)
      clear r1 hne
      (try clear hk0)
      (try clear hk1)
      (try clear hk3)
      go_enter Tryz.func21, Tryz.ntmps21
      go_upto_region 1 with fail
      generalize w.alloc (.cells #[.int .i64 v.k, .int .i64 v.now, .int .i64 v.sg, .string v.nm, .int .i64 v.r.sg, .int .i64 v.r.sp, .bool v.r.un, .int .i64 v.r.tr, .bool v.r.good, .string v.dn, .int .i64 v.dl, .slice A n c] 35) = W0 at *
      obtain ⟨c0, c1, c2, c3, c4, c5, c6, c7, c8, c9, c10, c11⟩ := evc (v := v) HX.out
      go_upto_region 8 with fail
      have HBL := Lib.hid (HW.out.alloc HW.out.size (.cells #[.int .i64 0, .int .i64 0, .bool false, .int .i64 0, .bool false] 30))
      have HX1 := Lib.hid (HX.out.alloc (.cells #[.int .i64 0, .int .i64 0, .bool false, .int .i64 0, .bool false] 30))
      have HZ1 := Lib.hid (Box.new W0 30 #[.int .i64 0, .int .i64 0, .bool false, .int .i64 0, .bool false])
      clear c0 c1 c2 c3 c4 c5 c6 c7 c8 c9 c10 c11
      generalize W0.alloc (.cells #[.int .i64 0, .int .i64 0, .bool false, .int .i64 0, .bool false] 30) = W1 at *
      obtain ⟨c0, c1, c2, c3, c4, c5, c6, c7, c8, c9, c10, c11⟩ := evc (v := v) HX1.out
      have z0 : W1.cell? ⟨W0.heap.size, 0, none⟩ = some (.int .i64 0) := HZ1.out.cell 0
      have z1 : W1.cell? ⟨W0.heap.size, 1, none⟩ = some (.int .i64 0) := HZ1.out.cell 1
      have z2 : W1.cell? ⟨W0.heap.size, 2, none⟩ = some (.bool false) := HZ1.out.cell 2
      have z3 : W1.cell? ⟨W0.heap.size, 3, none⟩ = some (.int .i64 0) := HZ1.out.cell 3
      have z4 : W1.cell? ⟨W0.heap.size, 4, none⟩ = some (.bool false) := HZ1.out.cell 4
      go_wp2
      go_ret
      exact ⟨by rw [HQ.out]; rfl, HBL.out⟩
    | true =>
      have hne1 := hne
      rw [r1] at hne1
      have Hr1 := Lib.hid r1
      clear r1 hne
      have HC := Lib.hid (fun W => rgood_any v.nm W (by have := HI.out.nm; omega))
      have HGE : Hid (goodE v = nameB v.nm.data.toList) := Lib.hid (by rw [goodE_in h1 h2 h3 h4 h5, nameG_1 hk1, defG_n (by omega), decide_eq_true Hd1.out, decide_eq_true Hd2.out, decide_eq_true Hd3.out, replyG_n (by omega), Hr1.out]; simp)
      (try clear hk0)
      (try clear hk1)
      (try clear hk3)
      go_enter Tryz.func21, Tryz.ntmps21
      go_upto_region 1 with fail
      generalize w.alloc (.cells #[.int .i64 v.k, .int .i64 v.now, .int .i64 v.sg, .string v.nm, .int .i64 v.r.sg, .int .i64 v.r.sp, .bool v.r.un, .int .i64 v.r.tr, .bool v.r.good, .string v.dn, .int .i64 v.dl, .slice A n c] 35) = W0 at *
      obtain ⟨c0, c1, c2, c3, c4, c5, c6, c7, c8, c9, c10, c11⟩ := evc (v := v) HX.out
      go_upto_region 8 with fail
      have HBL := Lib.hid (HW.out.alloc HW.out.size (.cells #[.int .i64 0, .int .i64 0, .bool false, .int .i64 0, .bool false] 30))
      have HX1 := Lib.hid (HX.out.alloc (.cells #[.int .i64 0, .int .i64 0, .bool false, .int .i64 0, .bool false] 30))
      have HZ1 := Lib.hid (Box.new W0 30 #[.int .i64 0, .int .i64 0, .bool false, .int .i64 0, .bool false])
      clear c0 c1 c2 c3 c4 c5 c6 c7 c8 c9 c10 c11
      generalize W0.alloc (.cells #[.int .i64 0, .int .i64 0, .bool false, .int .i64 0, .bool false] 30) = W1 at *
      obtain ⟨c0, c1, c2, c3, c4, c5, c6, c7, c8, c9, c10, c11⟩ := evc (v := v) HX1.out
      have z0 : W1.cell? ⟨W0.heap.size, 0, none⟩ = some (.int .i64 0) := HZ1.out.cell 0
      have z1 : W1.cell? ⟨W0.heap.size, 1, none⟩ = some (.int .i64 0) := HZ1.out.cell 1
      have z2 : W1.cell? ⟨W0.heap.size, 2, none⟩ = some (.bool false) := HZ1.out.cell 2
      have z3 : W1.cell? ⟨W0.heap.size, 3, none⟩ = some (.int .i64 0) := HZ1.out.cell 3
      have z4 : W1.cell? ⟨W0.heap.size, 4, none⟩ = some (.bool false) := HZ1.out.cell 4
      go_wp2_with fail
      refine (HC.out _).mono ?_
      rintro e w1 ⟨rfl, rfl⟩
      go_wp2
      go_ret
      exact ⟨by rw [HGE.out]; rfl, HBL.out⟩
  by_cases hk3 : v.k = 3
  · have b0 : (v.k == 0) = false := beq_false_of_ne (by omega)
    have m0 : (v.k != 0) = true := by unfold bne; rw [b0]; rfl
    have b1 : (v.k == 1) = false := beq_false_of_ne (by omega)
    have m1 : (v.k != 1) = true := by unfold bne; rw [b1]; rfl
    have b3 : (v.k == 3) = true := beq_iff_eq.2 hk3
    have m3 : (v.k != 3) = false := by unfold bne; rw [b3]; rfl
    by_cases d1 : v.dn = tx0
    rotate_left
    · have bd1 : (v.dn.toList == ([] : List UInt8)) = false := by rw [empty_beq, decide_eq_false d1]
      have id1 : v.dn.toList.isEmpty = false := by rw [empty_is, decide_eq_false d1]
      have md1 : (v.dn.toList != ([] : List UInt8)) = true := by unfold bne; rw [bd1]; rfl
      have HQ : Hid (goodE v = false) := Lib.hid (by rw [goodE_in h1 h2 h3 h4 h5, defG_n (by omega), decide_eq_false d1]; simp)
      clear d1
      (try clear hk0)
      (try clear hk1)
      (try clear hk3)
      go_enter Tryz.func21, Tryz.ntmps21
      go_upto_region 1 with fail
      generalize w.alloc (.cells #[.int .i64 v.k, .int .i64 v.now, .int .i64 v.sg, .string v.nm, .int .i64 v.r.sg, .int .i64 v.r.sp, .bool v.r.un, .int .i64 v.r.tr, .bool v.r.good, .string v.dn, .int .i64 v.dl, .slice A n c] 35) = W0 at *
      obtain ⟨c0, c1, c2, c3, c4, c5, c6, c7, c8, c9, c10, c11⟩ := evc (v := v) HX.out
      go_wp2
      go_ret
      exact ⟨by rw [HQ.out]; rfl, HW.out⟩
    have bd1 : (v.dn.toList == ([] : List UInt8)) = true := by rw [empty_beq, decide_eq_true d1]
    have id1 : v.dn.toList.isEmpty = true := by rw [empty_is, decide_eq_true d1]
    have md1 : (v.dn.toList != ([] : List UInt8)) = false := by unfold bne; rw [bd1]; rfl
    have Hd1 := Lib.hid d1
    clear d1
    by_cases d2 : v.dl = 0
    rotate_left
    · have bd2 : (v.dl == 0) = false := beq_false_of_ne d2
      have md2 : (v.dl != 0) = true := by unfold bne; rw [bd2]; rfl
      have HQ : Hid (goodE v = false) := Lib.hid (by rw [goodE_in h1 h2 h3 h4 h5, defG_n (by omega), decide_eq_false d2]; simp)
      clear d2
      (try clear hk0)
      (try clear hk1)
      (try clear hk3)
      go_enter Tryz.func21, Tryz.ntmps21
      go_upto_region 1 with fail
      generalize w.alloc (.cells #[.int .i64 v.k, .int .i64 v.now, .int .i64 v.sg, .string v.nm, .int .i64 v.r.sg, .int .i64 v.r.sp, .bool v.r.un, .int .i64 v.r.tr, .bool v.r.good, .string v.dn, .int .i64 v.dl, .slice A n c] 35) = W0 at *
      obtain ⟨c0, c1, c2, c3, c4, c5, c6, c7, c8, c9, c10, c11⟩ := evc (v := v) HX.out
      go_wp2
      go_ret
      exact ⟨by rw [HQ.out]; rfl, HW.out⟩
    have bd2 : (v.dl == 0) = true := beq_iff_eq.2 d2
    have md2 : (v.dl != 0) = false := by unfold bne; rw [bd2]; rfl
    have Hd2 := Lib.hid d2
    clear d2
    by_cases d3 : v.ss = []
    rotate_left
    · have bd3 : decide ((0 : Int) < (n : Int)) = true := by have : v.ss.length ≠ 0 := fun e => d3 (List.eq_nil_of_length_eq_zero e); exact decide_eq_true (by have := HN.out; omega)
      have ld3 : 0 < n := by have : v.ss.length ≠ 0 := fun e => d3 (List.eq_nil_of_length_eq_zero e); have := HN.out; omega
      have HQ : Hid (goodE v = false) := Lib.hid (by rw [goodE_in h1 h2 h3 h4 h5, defG_n (by omega), decide_eq_false d3]; simp)
      clear d3
      (try clear hk0)
      (try clear hk1)
      (try clear hk3)
      go_enter Tryz.func21, Tryz.ntmps21
      go_upto_region 1 with fail
      generalize w.alloc (.cells #[.int .i64 v.k, .int .i64 v.now, .int .i64 v.sg, .string v.nm, .int .i64 v.r.sg, .int .i64 v.r.sp, .bool v.r.un, .int .i64 v.r.tr, .bool v.r.good, .string v.dn, .int .i64 v.dl, .slice A n c] 35) = W0 at *
      obtain ⟨c0, c1, c2, c3, c4, c5, c6, c7, c8, c9, c10, c11⟩ := evc (v := v) HX.out
      go_wp2
      go_ret
      exact ⟨by rw [HQ.out]; rfl, HW.out⟩
    have bd3 : decide ((0 : Int) < (n : Int)) = false := decide_eq_false (by have h0 : v.ss.length = 0 := (by rw [d3]; rfl); have := HN.out; omega)
    have ld3 : ¬ 0 < n := by have h0 : v.ss.length = 0 := (by rw [d3]; rfl); have := HN.out; omega
    have Hd3 := Lib.hid d3
    clear d3
    by_cases n1 : v.nm = tx0
    rotate_left
    · have bn1 : (v.nm.toList == ([] : List UInt8)) = false := by rw [empty_beq, decide_eq_false n1]
      have in1 : v.nm.toList.isEmpty = false := by rw [empty_is, decide_eq_false n1]
      have mn1 : (v.nm.toList != ([] : List UInt8)) = true := by unfold bne; rw [bn1]; rfl
      have HQ : Hid (goodE v = false) := Lib.hid (by rw [goodE_in h1 h2 h3 h4 h5, nameG_n (by omega), decide_eq_false n1]; simp)
      clear n1
      (try clear hk0)
      (try clear hk1)
      (try clear hk3)
      go_enter Tryz.func21, Tryz.ntmps21
      go_upto_region 1 with fail
      generalize w.alloc (.cells #[.int .i64 v.k, .int .i64 v.now, .int .i64 v.sg, .string v.nm, .int .i64 v.r.sg, .int .i64 v.r.sp, .bool v.r.un, .int .i64 v.r.tr, .bool v.r.good, .string v.dn, .int .i64 v.dl, .slice A n c] 35) = W0 at *
      obtain ⟨c0, c1, c2, c3, c4, c5, c6, c7, c8, c9, c10, c11⟩ := evc (v := v) HX.out
      go_wp2
      go_ret
      exact ⟨by rw [HQ.out]; rfl, HW.out⟩
    have bn1 : (v.nm.toList == ([] : List UInt8)) = true := by rw [empty_beq, decide_eq_true n1]
    have in1 : v.nm.toList.isEmpty = true := by rw [empty_is, decide_eq_true n1]
    have mn1 : (v.nm.toList != ([] : List UInt8)) = false := by unfold bne; rw [bn1]; rfl
    have Hn1 := Lib.hid n1
    clear n1
    have HGE : Hid (goodE v = (decide (0 ≤ v.r.sg) && decide (0 ≤ v.r.sp) && decide (0 ≤ v.r.tr))) := Lib.hid (by rw [goodE_in h1 h2 h3 h4 h5, nameG_n (by omega), decide_eq_true Hn1.out, defG_n (by omega), decide_eq_true Hd1.out, decide_eq_true Hd2.out, decide_eq_true Hd3.out, replyG_3 hk3]; simp)
    by_cases g1 : v.r.sg < 0
    · have HQ : Hid (goodE v = false) := Lib.hid (by rw [HGE.out, decide_eq_false (p := 0 ≤ v.r.sg) (by omega)]; simp)
      (try clear hk0)
      (try clear hk1)
      (try clear hk3)
      go_enter Tryz.func21, Tryz.ntmps21
      go_upto_region 1 with fail
      generalize w.alloc (.cells #[.int .i64 v.k, .int .i64 v.now, .int .i64 v.sg, .string v.nm, .int .i64 v.r.sg, .int .i64 v.r.sp, .bool v.r.un, .int .i64 v.r.tr, .bool v.r.good, .string v.dn, .int .i64 v.dl, .slice A n c] 35) = W0 at *
      obtain ⟨c0, c1, c2, c3, c4, c5, c6, c7, c8, c9, c10, c11⟩ := evc (v := v) HX.out
      go_upto_region 8 with fail
      have HBL := Lib.hid (HW.out.alloc HW.out.size (.cells #[.int .i64 0, .int .i64 0, .bool false, .int .i64 0, .bool false] 30))
      have HX1 := Lib.hid (HX.out.alloc (.cells #[.int .i64 0, .int .i64 0, .bool false, .int .i64 0, .bool false] 30))
      have HZ1 := Lib.hid (Box.new W0 30 #[.int .i64 0, .int .i64 0, .bool false, .int .i64 0, .bool false])
      clear c0 c1 c2 c3 c4 c5 c6 c7 c8 c9 c10 c11
      generalize W0.alloc (.cells #[.int .i64 0, .int .i64 0, .bool false, .int .i64 0, .bool false] 30) = W1 at *
      obtain ⟨c0, c1, c2, c3, c4, c5, c6, c7, c8, c9, c10, c11⟩ := evc (v := v) HX1.out
      have z0 : W1.cell? ⟨W0.heap.size, 0, none⟩ = some (.int .i64 0) := HZ1.out.cell 0
      have z1 : W1.cell? ⟨W0.heap.size, 1, none⟩ = some (.int .i64 0) := HZ1.out.cell 1
      have z2 : W1.cell? ⟨W0.heap.size, 2, none⟩ = some (.bool false) := HZ1.out.cell 2
      have z3 : W1.cell? ⟨W0.heap.size, 3, none⟩ = some (.int .i64 0) := HZ1.out.cell 3
      have z4 : W1.cell? ⟨W0.heap.size, 4, none⟩ = some (.bool false) := HZ1.out.cell 4
      go_wp2
      go_ret
      exact ⟨by rw [HQ.out]; rfl, HBL.out⟩
    by_cases g2 : v.r.sp < 0
    · have HQ : Hid (goodE v = false) := Lib.hid (by rw [HGE.out, decide_eq_false (p := 0 ≤ v.r.sp) (by omega)]; simp)
      (try clear hk0)
      (try clear hk1)
      (try clear hk3)
      go_enter Tryz.func21, Tryz.ntmps21
      go_upto_region 1 with fail
      generalize w.alloc (.cells #[.int .i64 v.k, .int .i64 v.now, .int .i64 v.sg, .string v.nm, .int .i64 v.r.sg, .int .i64 v.r.sp, .bool v.r.un, .int .i64 v.r.tr, .bool v.r.good, .string v.dn, .int .i64 v.dl, .slice A n c] 35) = W0 at *
      obtain ⟨c0, c1, c2, c3, c4, c5, c6, c7, c8, c9, c10, c11⟩ := evc (v := v) HX.out
      go_upto_region 8 with fail
      have HBL := Lib.hid (HW.out.alloc HW.out.size (.cells #[.int .i64 0, .int .i64 0, .bool false, .int .i64 0, .bool false] 30))
      have HX1 := Lib.hid (HX.out.alloc (.cells #[.int .i64 0, .int .i64 0, .bool false, .int .i64 0, .bool false] 30))
      have HZ1 := Lib.hid (Box.new W0 30 #[.int .i64 0, .int .i64 0, .bool false, .int .i64 0, .bool false])
      clear c0 c1 c2 c3 c4 c5 c6 c7 c8 c9 c10 c11
      generalize W0.alloc (.cells #[.int .i64 0, .int .i64 0, .bool false, .int .i64 0, .bool false] 30) = W1 at *
      obtain ⟨c0, c1, c2, c3, c4, c5, c6, c7, c8, c9, c10, c11⟩ := evc (v := v) HX1.out
      have z0 : W1.cell? ⟨W0.heap.size, 0, none⟩ = some (.int .i64 0) := HZ1.out.cell 0
      have z1 : W1.cell? ⟨W0.heap.size, 1, none⟩ = some (.int .i64 0) := HZ1.out.cell 1
      have z2 : W1.cell? ⟨W0.heap.size, 2, none⟩ = some (.bool false) := HZ1.out.cell 2
      have z3 : W1.cell? ⟨W0.heap.size, 3, none⟩ = some (.int .i64 0) := HZ1.out.cell 3
      have z4 : W1.cell? ⟨W0.heap.size, 4, none⟩ = some (.bool false) := HZ1.out.cell 4
      go_wp2
      go_ret
      exact ⟨by rw [HQ.out]; rfl, HBL.out⟩
    have HQ : Hid (goodE v = decide (0 ≤ v.r.tr)) := Lib.hid (by rw [HGE.out, decide_eq_true (p := 0 ≤ v.r.sg) (by omega), decide_eq_true (p := 0 ≤ v.r.sp) (by omega)]; rfl)
    (try clear hk0)
    (try clear hk1)
    (try clear hk3)
    go_enter Tryz.func21, Tryz.ntmps21
    go_upto_region 1 with fail
    generalize w.alloc (.cells #[.int .i64 v.k, .int .i64 v.now, .int .i64 v.sg, .string v.nm, .int .i64 v.r.sg, .int .i64 v.r.sp, .bool v.r.un, .int .i64 v.r.tr, .bool v.r.good, .string v.dn, .int .i64 v.dl, .slice A n c] 35) = W0 at *
    obtain ⟨c0, c1, c2, c3, c4, c5, c6, c7, c8, c9, c10, c11⟩ := evc (v := v) HX.out
    go_upto_region 8 with fail
    have HBL := Lib.hid (HW.out.alloc HW.out.size (.cells #[.int .i64 0, .int .i64 0, .bool false, .int .i64 0, .bool false] 30))
    have HX1 := Lib.hid (HX.out.alloc (.cells #[.int .i64 0, .int .i64 0, .bool false, .int .i64 0, .bool false] 30))
    have HZ1 := Lib.hid (Box.new W0 30 #[.int .i64 0, .int .i64 0, .bool false, .int .i64 0, .bool false])
    clear c0 c1 c2 c3 c4 c5 c6 c7 c8 c9 c10 c11
    generalize W0.alloc (.cells #[.int .i64 0, .int .i64 0, .bool false, .int .i64 0, .bool false] 30) = W1 at *
    obtain ⟨c0, c1, c2, c3, c4, c5, c6, c7, c8, c9, c10, c11⟩ := evc (v := v) HX1.out
    have z0 : W1.cell? ⟨W0.heap.size, 0, none⟩ = some (.int .i64 0) := HZ1.out.cell 0
    have z1 : W1.cell? ⟨W0.heap.size, 1, none⟩ = some (.int .i64 0) := HZ1.out.cell 1
    have z2 : W1.cell? ⟨W0.heap.size, 2, none⟩ = some (.bool false) := HZ1.out.cell 2
    have z3 : W1.cell? ⟨W0.heap.size, 3, none⟩ = some (.int .i64 0) := HZ1.out.cell 3
    have z4 : W1.cell? ⟨W0.heap.size, 4, none⟩ = some (.bool false) := HZ1.out.cell 4
    go_wp2
    go_ret
    exact ⟨by rw [HQ.out]; rfl, HBL.out⟩
  have b0 : (v.k == 0) = false := beq_false_of_ne hk0
  have m0 : (v.k != 0) = true := by unfold bne; rw [b0]; rfl
  have b1 : (v.k == 1) = false := beq_false_of_ne hk1
  have m1 : (v.k != 1) = true := by unfold bne; rw [b1]; rfl
  have b3 : (v.k == 3) = false := beq_false_of_ne hk3
  have m3 : (v.k != 3) = true := by unfold bne; rw [b3]; rfl
  by_cases d1 : v.dn = tx0
  rotate_left
  · have bd1 : (v.dn.toList == ([] : List UInt8)) = false := by rw [empty_beq, decide_eq_false d1]
    have id1 : v.dn.toList.isEmpty = false := by rw [empty_is, decide_eq_false d1]
    have md1 : (v.dn.toList != ([] : List UInt8)) = true := by unfold bne; rw [bd1]; rfl
    have HQ : Hid (goodE v = false) := Lib.hid (by rw [goodE_in h1 h2 h3 h4 h5, defG_n (by omega), decide_eq_false d1]; simp)
    clear d1
    (try clear hk0)
    (try clear hk1)
    (try clear hk3)
    go_enter Tryz.func21, Tryz.ntmps21
    go_upto_region 1 with fail
    generalize w.alloc (.cells #[.int .i64 v.k, .int .i64 v.now, .int .i64 v.sg, .string v.nm, .int .i64 v.r.sg, .int .i64 v.r.sp, .bool v.r.un, .int .i64 v.r.tr, .bool v.r.good, .string v.dn, .int .i64 v.dl, .slice A n c] 35) = W0 at *
    obtain ⟨c0, c1, c2, c3, c4, c5, c6, c7, c8, c9, c10, c11⟩ := evc (v := v) HX.out
    go_wp2
    go_ret
    exact ⟨by rw [HQ.out]; rfl, HW.out⟩
  have bd1 : (v.dn.toList == ([] : List UInt8)) = true := by rw [empty_beq, decide_eq_true d1]
  have id1 : v.dn.toList.isEmpty = true := by rw [empty_is, decide_eq_true d1]
  have md1 : (v.dn.toList != ([] : List UInt8)) = false := by unfold bne; rw [bd1]; rfl
  have Hd1 := Lib.hid d1
  clear d1
  by_cases d2 : v.dl = 0
  rotate_left
  · have bd2 : (v.dl == 0) = false := beq_false_of_ne d2
    have md2 : (v.dl != 0) = true := by unfold bne; rw [bd2]; rfl
    have HQ : Hid (goodE v = false) := Lib.hid (by rw [goodE_in h1 h2 h3 h4 h5, defG_n (by omega), decide_eq_false d2]; simp)
    clear d2
    (try clear hk0)
    (try clear hk1)
    (try clear hk3)
    go_enter Tryz.func21, Tryz.ntmps21
    go_upto_region 1 with fail
    generalize w.alloc (.cells #[.int .i64 v.k, .int .i64 v.now, .int .i64 v.sg, .string v.nm, .int .i64 v.r.sg, .int .i64 v.r.sp, .bool v.r.un, .int .i64 v.r.tr, .bool v.r.good, .string v.dn, .int .i64 v.dl, .slice A n c] 35) = W0 at *
    obtain ⟨c0, c1, c2, c3, c4, c5, c6, c7, c8, c9, c10, c11⟩ := evc (v := v) HX.out
    go_wp2
    go_ret
    exact ⟨by rw [HQ.out]; rfl, HW.out⟩
  have bd2 : (v.dl == 0) = true := beq_iff_eq.2 d2
  have md2 : (v.dl != 0) = false := by unfold bne; rw [bd2]; rfl
  have Hd2 := Lib.hid d2
  clear d2
  by_cases d3 : v.ss = []
  rotate_left
  · have bd3 : decide ((0 : Int) < (n : Int)) = true := by have : v.ss.length ≠ 0 := fun e => d3 (List.eq_nil_of_length_eq_zero e); exact decide_eq_true (by have := HN.out; omega)
    have ld3 : 0 < n := by have : v.ss.length ≠ 0 := fun e => d3 (List.eq_nil_of_length_eq_zero e); have := HN.out; omega
    have HQ : Hid (goodE v = false) := Lib.hid (by rw [goodE_in h1 h2 h3 h4 h5, defG_n (by omega), decide_eq_false d3]; simp)
    clear d3
    (try clear hk0)
    (try clear hk1)
    (try clear hk3)
    go_enter Tryz.func21, Tryz.ntmps21
    go_upto_region 1 with fail
    generalize w.alloc (.cells #[.int .i64 v.k, .int .i64 v.now, .int .i64 v.sg, .string v.nm, .int .i64 v.r.sg, .int .i64 v.r.sp, .bool v.r.un, .int .i64 v.r.tr, .bool v.r.good, .string v.dn, .int .i64 v.dl, .slice A n c] 35) = W0 at *
    obtain ⟨c0, c1, c2, c3, c4, c5, c6, c7, c8, c9, c10, c11⟩ := evc (v := v) HX.out
    go_wp2
    go_ret
    exact ⟨by rw [HQ.out]; rfl, HW.out⟩
  have bd3 : decide ((0 : Int) < (n : Int)) = false := decide_eq_false (by have h0 : v.ss.length = 0 := (by rw [d3]; rfl); have := HN.out; omega)
  have ld3 : ¬ 0 < n := by have h0 : v.ss.length = 0 := (by rw [d3]; rfl); have := HN.out; omega
  have Hd3 := Lib.hid d3
  clear d3
  by_cases n1 : v.nm = tx0
  rotate_left
  · have bn1 : (v.nm.toList == ([] : List UInt8)) = false := by rw [empty_beq, decide_eq_false n1]
    have in1 : v.nm.toList.isEmpty = false := by rw [empty_is, decide_eq_false n1]
    have mn1 : (v.nm.toList != ([] : List UInt8)) = true := by unfold bne; rw [bn1]; rfl
    have HQ : Hid (goodE v = false) := Lib.hid (by rw [goodE_in h1 h2 h3 h4 h5, nameG_n (by omega), decide_eq_false n1]; simp)
    clear n1
    (try clear hk0)
    (try clear hk1)
    (try clear hk3)
    go_enter Tryz.func21, Tryz.ntmps21
    go_upto_region 1 with fail
    generalize w.alloc (.cells #[.int .i64 v.k, .int .i64 v.now, .int .i64 v.sg, .string v.nm, .int .i64 v.r.sg, .int .i64 v.r.sp, .bool v.r.un, .int .i64 v.r.tr, .bool v.r.good, .string v.dn, .int .i64 v.dl, .slice A n c] 35) = W0 at *
    obtain ⟨c0, c1, c2, c3, c4, c5, c6, c7, c8, c9, c10, c11⟩ := evc (v := v) HX.out
    go_wp2
    go_ret
    exact ⟨by rw [HQ.out]; rfl, HW.out⟩
  have bn1 : (v.nm.toList == ([] : List UInt8)) = true := by rw [empty_beq, decide_eq_true n1]
  have in1 : v.nm.toList.isEmpty = true := by rw [empty_is, decide_eq_true n1]
  have mn1 : (v.nm.toList != ([] : List UInt8)) = false := by unfold bne; rw [bn1]; rfl
  have Hn1 := Lib.hid n1
  clear n1
  cases r1 : eqRp v.r rp0 with
  | false =>
    have hne1 := hne
    rw [r1] at hne1
    have HQ : Hid (goodE v = false) := Lib.hid (by rw [goodE_in h1 h2 h3 h4 h5, replyG_n (by omega), r1]; simp)
    clear r1 hne
    (try clear hk0)
    (try clear hk1)
    (try clear hk3)
    go_enter Tryz.func21, Tryz.ntmps21
    go_upto_region 1 with fail
    generalize w.alloc (.cells #[.int .i64 v.k, .int .i64 v.now, .int .i64 v.sg, .string v.nm, .int .i64 v.r.sg, .int .i64 v.r.sp, .bool v.r.un, .int .i64 v.r.tr, .bool v.r.good, .string v.dn, .int .i64 v.dl, .slice A n c] 35) = W0 at *
    obtain ⟨c0, c1, c2, c3, c4, c5, c6, c7, c8, c9, c10, c11⟩ := evc (v := v) HX.out
    go_upto_region 8 with fail
    have HBL := Lib.hid (HW.out.alloc HW.out.size (.cells #[.int .i64 0, .int .i64 0, .bool false, .int .i64 0, .bool false] 30))
    have HX1 := Lib.hid (HX.out.alloc (.cells #[.int .i64 0, .int .i64 0, .bool false, .int .i64 0, .bool false] 30))
    have HZ1 := Lib.hid (Box.new W0 30 #[.int .i64 0, .int .i64 0, .bool false, .int .i64 0, .bool false])
    clear c0 c1 c2 c3 c4 c5 c6 c7 c8 c9 c10 c11
    generalize W0.alloc (.cells #[.int .i64 0, .int .i64 0, .bool false, .int .i64 0, .bool false] 30) = W1 at *
    obtain ⟨c0, c1, c2, c3, c4, c5, c6, c7, c8, c9, c10, c11⟩ := evc (v := v) HX1.out
    have z0 : W1.cell? ⟨W0.heap.size, 0, none⟩ = some (.int .i64 0) := HZ1.out.cell 0
    have z1 : W1.cell? ⟨W0.heap.size, 1, none⟩ = some (.int .i64 0) := HZ1.out.cell 1
    have z2 : W1.cell? ⟨W0.heap.size, 2, none⟩ = some (.bool false) := HZ1.out.cell 2
    have z3 : W1.cell? ⟨W0.heap.size, 3, none⟩ = some (.int .i64 0) := HZ1.out.cell 3
    have z4 : W1.cell? ⟨W0.heap.size, 4, none⟩ = some (.bool false) := HZ1.out.cell 4
    go_wp2
    go_ret
    exact ⟨by rw [HQ.out]; rfl, HBL.out⟩
  | true =>
    have hne1 := hne
    rw [r1] at hne1
    have Hr1 := Lib.hid r1
    clear r1 hne
    have HQ : Hid (goodE v = true) := Lib.hid (by rw [goodE_in h1 h2 h3 h4 h5, nameG_n hk1, decide_eq_true Hn1.out, defG_n hk0, decide_eq_true Hd1.out, decide_eq_true Hd2.out, decide_eq_true Hd3.out, replyG_n hk3, Hr1.out]; simp)
    have hr0 := eqRp_iff.1 Hr1.out
    have y1 : ¬ v.r.sg < 0 := by rw [hr0]; decide
    have y2 : ¬ v.r.sp < 0 := by rw [hr0]; decide
    have y3 : ¬ v.r.tr < 0 := by rw [hr0]; decide
    clear hr0
    (try clear hk0)
    (try clear hk1)
    (try clear hk3)
    go_enter Tryz.func21, Tryz.ntmps21
    go_upto_region 1 with fail
    generalize w.alloc (.cells #[.int .i64 v.k, .int .i64 v.now, .int .i64 v.sg, .string v.nm, .int .i64 v.r.sg, .int .i64 v.r.sp, .bool v.r.un, .int .i64 v.r.tr, .bool v.r.good, .string v.dn, .int .i64 v.dl, .slice A n c] 35) = W0 at *
    obtain ⟨c0, c1, c2, c3, c4, c5, c6, c7, c8, c9, c10, c11⟩ := evc (v := v) HX.out
    go_upto_region 8 with fail
    have HBL := Lib.hid (HW.out.alloc HW.out.size (.cells #[.int .i64 0, .int .i64 0, .bool false, .int .i64 0, .bool false] 30))
    have HX1 := Lib.hid (HX.out.alloc (.cells #[.int .i64 0, .int .i64 0, .bool false, .int .i64 0, .bool false] 30))
    have HZ1 := Lib.hid (Box.new W0 30 #[.int .i64 0, .int .i64 0, .bool false, .int .i64 0, .bool false])
    clear c0 c1 c2 c3 c4 c5 c6 c7 c8 c9 c10 c11
    generalize W0.alloc (.cells #[.int .i64 0, .int .i64 0, .bool false, .int .i64 0, .bool false] 30) = W1 at *
    obtain ⟨c0, c1, c2, c3, c4, c5, c6, c7, c8, c9, c10, c11⟩ := evc (v := v) HX1.out
    have z0 : W1.cell? ⟨W0.heap.size, 0, none⟩ = some (.int .i64 0) := HZ1.out.cell 0
    have z1 : W1.cell? ⟨W0.heap.size, 1, none⟩ = some (.int .i64 0) := HZ1.out.cell 1
    have z2 : W1.cell? ⟨W0.heap.size, 2, none⟩ = some (.bool false) := HZ1.out.cell 2
    have z3 : W1.cell? ⟨W0.heap.size, 3, none⟩ = some (.int .i64 0) := HZ1.out.cell 3
    have z4 : W1.cell? ⟨W0.heap.size, 4, none⟩ = some (.bool false) := HZ1.out.cell 4
    go_wp2
    go_ret
    exact ⟨by rw [HQ.out]; rfl, HBL.out⟩
end Go.Proofs.YteejocnogpaifaaGreatDoor.Co
