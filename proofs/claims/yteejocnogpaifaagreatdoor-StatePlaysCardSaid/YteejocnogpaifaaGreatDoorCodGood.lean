/-
  The program's Good, and what it asks of an event's kind, name, definition and reply.
  Conditions: the steps lie in memory; texts are of a moderate size.
-/
import Derived.Test.YteejocnogpaifaaGreatDoorCodEq
import Derived.Test.YteejocnogpaifaaGreatDoorDefCheck
import Derived.Test.YteejocnogpaifaaGreatDoorDefSame
import Derived.Test.YteejocnogpaifaaGreatDoorCodEv
namespace Go.Proofs.YteejocnogpaifaaGreatDoor.Co
open Go.RowKit
open Go.Proofs.YteejocnogpaifaaGreatDoor.El
open Go.Proofs.YteejocnogpaifaaGreatDoor.Df
open Go.Proofs.YteejocnogpaifaaGreatDoor.Bo (P Made ret_int ret_bool)
open Go.Proofs.YteejocnogpaifaaGreatDoor.Sa (Sg Rp)

/-- an event's texts and steps are of a moderate size, and its steps lie in memory -/
structure EvIn (w : World) (v : Ev) (A : Option Addr) (n c : Nat) : Prop where
  hn : n = v.ss.length
  hc : n ≤ c
  mod : Mod v.dn v.ss
  nm : v.nm.size ≤ 1000000
  st : Df.Steps w w.heap.size A v.ss
theorem EvIn.on {w u : World} {v : Ev} {A : Option Addr} {n c : Nat} (h : EvIn w v A n c) (hb : Below w.heap.size w u) : EvIn u v A n c := ⟨h.hn, h.hc, h.mod, h.nm, h.st.on hb⟩
theorem evc {u : World} {q : Nat} {v : Ev} {A : Option Addr} {n c : Nat} (h : Box u q 35 #[.int .i64 v.k, .int .i64 v.now, .int .i64 v.sg, .string v.nm, .int .i64 v.r.sg, .int .i64 v.r.sp, .bool v.r.un, .int .i64 v.r.tr, .bool v.r.good, .string v.dn, .int .i64 v.dl, .slice A n c]) :
    u.cell? ⟨q, 0, none⟩ = some (.int .i64 v.k) ∧ u.cell? ⟨q, 1, none⟩ = some (.int .i64 v.now) ∧ u.cell? ⟨q, 2, none⟩ = some (.int .i64 v.sg) ∧ u.cell? ⟨q, 3, none⟩ = some (.string v.nm) ∧ u.cell? ⟨q, 4, none⟩ = some (.int .i64 v.r.sg) ∧ u.cell? ⟨q, 5, none⟩ = some (.int .i64 v.r.sp) ∧ u.cell? ⟨q, 6, none⟩ = some (.bool v.r.un) ∧ u.cell? ⟨q, 7, none⟩ = some (.int .i64 v.r.tr) ∧ u.cell? ⟨q, 8, none⟩ = some (.bool v.r.good) ∧ u.cell? ⟨q, 9, none⟩ = some (.string v.dn) ∧ u.cell? ⟨q, 10, none⟩ = some (.int .i64 v.dl) ∧ u.cell? ⟨q, 11, none⟩ = some (.slice A n c) :=
  ⟨h.cell 0, h.cell 1, h.cell 2, h.cell 3, h.cell 4, h.cell 5, h.cell 6, h.cell 7, h.cell 8, h.cell 9, h.cell 10, h.cell 11⟩
theorem isKind_any (k : Int) (w : World) : Calls Tryz.prog 35 #[.int .i64 k] w fun e w' => e = .returned (.bool (kindG k)) ∧ w = w' := by
  by_cases h : 0 ≤ k
  all_goals
    go_enter Tryz.func35, Tryz.ntmps35
    go_wp2
    go_ret
    refine ⟨ret_bool ?_, rfl⟩
    unfold kindG
    simp [h] <;> omega
set_option maxHeartbeats 1000000 in
set_option maxRecDepth 100000 in
theorem rightDef_any (nm : ByteArray) (dl : Int) (A : Option Addr) (c : Nat) (ss : List Stp) (n : Nat) (w : World) (hn : n = ss.length) (hc : n ≤ c) (hM : Mod nm ss) (hS : Df.Steps w w.heap.size A ss) :
    Calls Tryz.prog 73 #[.agg #[.string nm, .int .i64 dl, .slice A n c]] w fun e w' => e = .returned (.bool (rightB nm dl ss)) ∧ Below w.heap.size w w' := by
  have HW := Lib.hid ((Below.refl w.heap.size w).alloc (Nat.le_refl _) (.cells #[.string nm, .int .i64 dl, .slice A n c] 33))
  have HX := Lib.hid (Box.new w 33 #[.string nm, .int .i64 dl, .slice A n c])
  have hb : n ≤ 9223372036854775807 := by have := hM.2.1; omega
  have HC := Lib.hid (check_any nm dl A c ss n (w.alloc (.cells #[.string nm, .int .i64 dl, .slice A n c] 33)) hn hb hc (hS.on HW.out) (by have := hM.1; omega) (fun s hs => by have := hM.2.2 s hs; omega))
  clear hn hc hM hS hb
  go_enter Tryz.func73, Tryz.ntmps73
  go_upto_region 1 with fail
  generalize w.alloc (.cells #[.string nm, .int .i64 dl, .slice A n c] 33) = W0 at *
  have c0 : W0.cell? ⟨w.heap.size, 0, none⟩ = some (.string nm) := HX.out.cell 0
  have c1 : W0.cell? ⟨w.heap.size, 1, none⟩ = some (.int .i64 dl) := HX.out.cell 1
  have c2 : W0.cell? ⟨w.heap.size, 2, none⟩ = some (.slice A n c) := HX.out.cell 2
  go_wp2_with fail
  refine HC.out.mono ?_
  rintro e w1 ⟨k, ev, rfl, hk, hb⟩
  have HK := Lib.hid (chk_right hk)
  have HB := Lib.hid hb
  clear hk hb
  by_cases he : ev = 0
  · have g : (ev == 0) = true := by simp [he]
    have HE := Lib.hid he
    clear he
    go_wp2
    go_ret
    exact ⟨by rw [HK.out, HE.out]; rfl, HW.out.trans (HB.out.mono HW.out.size)⟩
  · have g : (ev == 0) = false := by simpa using he
    have HE := Lib.hid he
    clear he
    go_wp2
    go_ret
    exact ⟨by rw [HK.out, decide_eq_false HE.out]; rfl, HW.out.trans (HB.out.mono HW.out.size)⟩
set_option maxHeartbeats 2000000 in
set_option maxRecDepth 100000 in
theorem goodName_any (v : Ev) (A : Option Addr) (n c : Nat) (w : World) (h : EvIn w v A n c) : Calls Tryz.prog 37 #[.agg #[.int .i64 v.k, .int .i64 v.now, .int .i64 v.sg, .string v.nm, .int .i64 v.r.sg, .int .i64 v.r.sp, .bool v.r.un, .int .i64 v.r.tr, .bool v.r.good, .string v.dn, .int .i64 v.dl, .slice A n c]] w fun e w' => e = .returned (.bool (nameG v)) ∧ Below w.heap.size w w' := by
  have HG := Lib.hid (fun W => good_any v.nm W (by have := h.nm; omega))
  by_cases hk : v.k = 1
  · have HN : Hid (nameG v = nameB v.nm.data.toList) := Lib.hid (by unfold nameG; rw [if_pos hk])
    have gk : (v.k == 1) = true := by simpa using hk
    clear hk h
    have HW := Lib.hid ((Below.refl w.heap.size w).alloc (Nat.le_refl _) (.cells #[.int .i64 v.k, .int .i64 v.now, .int .i64 v.sg, .string v.nm, .int .i64 v.r.sg, .int .i64 v.r.sp, .bool v.r.un, .int .i64 v.r.tr, .bool v.r.good, .string v.dn, .int .i64 v.dl, .slice A n c] 35))
    have HX := Lib.hid (Box.new w 35 #[.int .i64 v.k, .int .i64 v.now, .int .i64 v.sg, .string v.nm, .int .i64 v.r.sg, .int .i64 v.r.sp, .bool v.r.un, .int .i64 v.r.tr, .bool v.r.good, .string v.dn, .int .i64 v.dl, .slice A n c])
    go_enter Tryz.func37, Tryz.ntmps37
    go_upto_region 1 with fail
    generalize w.alloc (.cells #[.int .i64 v.k, .int .i64 v.now, .int .i64 v.sg, .string v.nm, .int .i64 v.r.sg, .int .i64 v.r.sp, .bool v.r.un, .int .i64 v.r.tr, .bool v.r.good, .string v.dn, .int .i64 v.dl, .slice A n c] 35) = W0 at *
    obtain ⟨c0, c1, c2, c3, c4, c5, c6, c7, c8, c9, c10, c11⟩ := evc (v := v) HX.out
    go_wp2_with fail
    refine (HG.out _).mono ?_
    rintro e w1 ⟨rfl, hb⟩
    go_wp2
    go_ret
    exact ⟨by rw [HN.out]; rfl, HW.out.trans (hb.mono HW.out.size)⟩
  · have HN : Hid (nameG v = decide (v.nm = tx0)) := Lib.hid (by unfold nameG; rw [if_neg hk])
    have gk : (v.k == 1) = false := by simpa using hk
    have he : (v.nm.toList == ([] : List UInt8)) = decide (v.nm = tx0) := by have h := bytes_beq v.nm tx0; rw [ByteArray.toList_eq tx0] at h; exact h
    obtain ⟨b, hb⟩ : ∃ b, b = decide (v.nm = tx0) := ⟨_, rfl⟩
    rw [← hb] at HN he
    clear hk h hb HG
    cases b
    all_goals
      have HW := Lib.hid ((Below.refl w.heap.size w).alloc (Nat.le_refl _) (.cells #[.int .i64 v.k, .int .i64 v.now, .int .i64 v.sg, .string v.nm, .int .i64 v.r.sg, .int .i64 v.r.sp, .bool v.r.un, .int .i64 v.r.tr, .bool v.r.good, .string v.dn, .int .i64 v.dl, .slice A n c] 35))
      have HX := Lib.hid (Box.new w 35 #[.int .i64 v.k, .int .i64 v.now, .int .i64 v.sg, .string v.nm, .int .i64 v.r.sg, .int .i64 v.r.sp, .bool v.r.un, .int .i64 v.r.tr, .bool v.r.good, .string v.dn, .int .i64 v.dl, .slice A n c])
      go_enter Tryz.func37, Tryz.ntmps37
      go_upto_region 1 with fail
      generalize w.alloc (.cells #[.int .i64 v.k, .int .i64 v.now, .int .i64 v.sg, .string v.nm, .int .i64 v.r.sg, .int .i64 v.r.sp, .bool v.r.un, .int .i64 v.r.tr, .bool v.r.good, .string v.dn, .int .i64 v.dl, .slice A n c] 35) = W0 at *
      obtain ⟨c0, c1, c2, c3, c4, c5, c6, c7, c8, c9, c10, c11⟩ := evc (v := v) HX.out
      go_wp2
      go_ret
      exact ⟨by rw [HN.out]; rfl, HW.out⟩
set_option maxHeartbeats 2000000 in
set_option maxRecDepth 100000 in
theorem goodDef_any (v : Ev) (A : Option Addr) (n c : Nat) (w : World) (h : EvIn w v A n c) : Calls Tryz.prog 38 #[.agg #[.int .i64 v.k, .int .i64 v.now, .int .i64 v.sg, .string v.nm, .int .i64 v.r.sg, .int .i64 v.r.sp, .bool v.r.un, .int .i64 v.r.tr, .bool v.r.good, .string v.dn, .int .i64 v.dl, .slice A n c]] w fun e w' => e = .returned (.bool (defG v)) ∧ Below w.heap.size w w' := by
  by_cases hk : v.k = 0
  · have HN : Hid (defG v = (decide (v.sg = 0) && rightB v.dn v.dl v.ss)) := Lib.hid (by unfold defG; rw [if_pos hk])
    have gk : (v.k == 0) = true := by simpa using hk
    have HG := Lib.hid (rightDef_any v.dn v.dl A c v.ss n (w.alloc (.cells #[.int .i64 v.k, .int .i64 v.now, .int .i64 v.sg, .string v.nm, .int .i64 v.r.sg, .int .i64 v.r.sp, .bool v.r.un, .int .i64 v.r.tr, .bool v.r.good, .string v.dn, .int .i64 v.dl, .slice A n c] 35)) h.hn h.hc h.mod (h.on ((Below.refl w.heap.size w).alloc (Nat.le_refl _) _)).st)
    clear hk h
    by_cases hs : v.sg = 0
    · have gs : (v.sg == 0) = true := by simpa using hs
      have HS := Lib.hid hs
      clear hs
      have HW := Lib.hid ((Below.refl w.heap.size w).alloc (Nat.le_refl _) (.cells #[.int .i64 v.k, .int .i64 v.now, .int .i64 v.sg, .string v.nm, .int .i64 v.r.sg, .int .i64 v.r.sp, .bool v.r.un, .int .i64 v.r.tr, .bool v.r.good, .string v.dn, .int .i64 v.dl, .slice A n c] 35))
      have HX := Lib.hid (Box.new w 35 #[.int .i64 v.k, .int .i64 v.now, .int .i64 v.sg, .string v.nm, .int .i64 v.r.sg, .int .i64 v.r.sp, .bool v.r.un, .int .i64 v.r.tr, .bool v.r.good, .string v.dn, .int .i64 v.dl, .slice A n c])
      go_enter Tryz.func38, Tryz.ntmps38
      go_upto_region 1 with fail
      generalize w.alloc (.cells #[.int .i64 v.k, .int .i64 v.now, .int .i64 v.sg, .string v.nm, .int .i64 v.r.sg, .int .i64 v.r.sp, .bool v.r.un, .int .i64 v.r.tr, .bool v.r.good, .string v.dn, .int .i64 v.dl, .slice A n c] 35) = W0 at *
      obtain ⟨c0, c1, c2, c3, c4, c5, c6, c7, c8, c9, c10, c11⟩ := evc (v := v) HX.out
      go_wp2_with fail
      refine HG.out.mono ?_
      rintro e w1 ⟨rfl, hb⟩
      go_wp2
      go_ret
      exact ⟨by rw [HN.out, decide_eq_true HS.out]; rfl, HW.out.trans (hb.mono HW.out.size)⟩
    · have gs : (v.sg == 0) = false := by simpa using hs
      have HS := Lib.hid hs
      clear hs
      have HW := Lib.hid ((Below.refl w.heap.size w).alloc (Nat.le_refl _) (.cells #[.int .i64 v.k, .int .i64 v.now, .int .i64 v.sg, .string v.nm, .int .i64 v.r.sg, .int .i64 v.r.sp, .bool v.r.un, .int .i64 v.r.tr, .bool v.r.good, .string v.dn, .int .i64 v.dl, .slice A n c] 35))
      have HX := Lib.hid (Box.new w 35 #[.int .i64 v.k, .int .i64 v.now, .int .i64 v.sg, .string v.nm, .int .i64 v.r.sg, .int .i64 v.r.sp, .bool v.r.un, .int .i64 v.r.tr, .bool v.r.good, .string v.dn, .int .i64 v.dl, .slice A n c])
      go_enter Tryz.func38, Tryz.ntmps38
      go_upto_region 1 with fail
      generalize w.alloc (.cells #[.int .i64 v.k, .int .i64 v.now, .int .i64 v.sg, .string v.nm, .int .i64 v.r.sg, .int .i64 v.r.sp, .bool v.r.un, .int .i64 v.r.tr, .bool v.r.good, .string v.dn, .int .i64 v.dl, .slice A n c] 35) = W0 at *
      obtain ⟨c0, c1, c2, c3, c4, c5, c6, c7, c8, c9, c10, c11⟩ := evc (v := v) HX.out
      go_wp2
      go_ret
      exact ⟨by rw [HN.out, decide_eq_false HS.out]; rfl, HW.out⟩
  · have HN : Hid (defG v = sameB v.dn tx0 v.dl 0 v.ss []) := Lib.hid (by unfold defG; rw [if_neg hk])
    have gk : (v.k == 0) = false := by simpa using hk
    have HG := Lib.hid (same_any v.dn tx0 v.dl 0 A none c 0 v.ss [] n 0 (w.alloc (.cells #[.int .i64 v.k, .int .i64 v.now, .int .i64 v.sg, .string v.nm, .int .i64 v.r.sg, .int .i64 v.r.sp, .bool v.r.un, .int .i64 v.r.tr, .bool v.r.good, .string v.dn, .int .i64 v.dl, .slice A n c] 35)) h.hn rfl (by have := h.mod.2.1; have := h.hn; omega) (by omega) (h.on ((Below.refl w.heap.size w).alloc (Nat.le_refl _) _)).st (Els.nil _ _ _ _ _))
    unfold tx0 at HG
    clear hk h
    have HW := Lib.hid ((Below.refl w.heap.size w).alloc (Nat.le_refl _) (.cells #[.int .i64 v.k, .int .i64 v.now, .int .i64 v.sg, .string v.nm, .int .i64 v.r.sg, .int .i64 v.r.sp, .bool v.r.un, .int .i64 v.r.tr, .bool v.r.good, .string v.dn, .int .i64 v.dl, .slice A n c] 35))
    have HX := Lib.hid (Box.new w 35 #[.int .i64 v.k, .int .i64 v.now, .int .i64 v.sg, .string v.nm, .int .i64 v.r.sg, .int .i64 v.r.sp, .bool v.r.un, .int .i64 v.r.tr, .bool v.r.good, .string v.dn, .int .i64 v.dl, .slice A n c])
    go_enter Tryz.func38, Tryz.ntmps38
    go_upto_region 1 with fail
    generalize w.alloc (.cells #[.int .i64 v.k, .int .i64 v.now, .int .i64 v.sg, .string v.nm, .int .i64 v.r.sg, .int .i64 v.r.sp, .bool v.r.un, .int .i64 v.r.tr, .bool v.r.good, .string v.dn, .int .i64 v.dl, .slice A n c] 35) = W0 at *
    obtain ⟨c0, c1, c2, c3, c4, c5, c6, c7, c8, c9, c10, c11⟩ := evc (v := v) HX.out
    go_wp2_with fail
    refine HG.out.mono ?_
    rintro e w1 ⟨rfl, hm⟩
    go_wp2
    go_ret
    exact ⟨by rw [HN.out]; rfl, HW.out.trans (hm.below.mono HW.out.size)⟩
set_option maxHeartbeats 2000000 in
set_option maxRecDepth 100000 in
theorem goodReply_any (v : Ev) (A : Option Addr) (n c : Nat) (w : World) : Calls Tryz.prog 39 #[.agg #[.int .i64 v.k, .int .i64 v.now, .int .i64 v.sg, .string v.nm, .int .i64 v.r.sg, .int .i64 v.r.sp, .bool v.r.un, .int .i64 v.r.tr, .bool v.r.good, .string v.dn, .int .i64 v.dl, .slice A n c]] w fun e w' => e = .returned (.bool (replyG v)) ∧ Below w.heap.size w w' := by
  by_cases hk : v.k = 3
  · have HN : Hid (replyG v = (decide (0 ≤ v.r.sg) && decide (0 ≤ v.r.sp) && decide (0 ≤ v.r.tr))) := Lib.hid (by unfold replyG; rw [if_pos hk])
    have gk : (v.k == 3) = true := by simpa using hk
    clear hk
    by_cases h1 : 0 ≤ v.r.sg
    · by_cases h2 : 0 ≤ v.r.sp
      · by_cases h3 : 0 ≤ v.r.tr
        all_goals
          have HQ : Hid (replyG v = decide (0 ≤ v.r.tr)) := Lib.hid (by rw [HN.out, decide_eq_true h1, decide_eq_true h2]; rfl)
          have HW := Lib.hid ((Below.refl w.heap.size w).alloc (Nat.le_refl _) (.cells #[.int .i64 v.k, .int .i64 v.now, .int .i64 v.sg, .string v.nm, .int .i64 v.r.sg, .int .i64 v.r.sp, .bool v.r.un, .int .i64 v.r.tr, .bool v.r.good, .string v.dn, .int .i64 v.dl, .slice A n c] 35))
          have HX := Lib.hid (Box.new w 35 #[.int .i64 v.k, .int .i64 v.now, .int .i64 v.sg, .string v.nm, .int .i64 v.r.sg, .int .i64 v.r.sp, .bool v.r.un, .int .i64 v.r.tr, .bool v.r.good, .string v.dn, .int .i64 v.dl, .slice A n c])
          go_enter Tryz.func39, Tryz.ntmps39
          go_upto_region 1 with fail
          generalize w.alloc (.cells #[.int .i64 v.k, .int .i64 v.now, .int .i64 v.sg, .string v.nm, .int .i64 v.r.sg, .int .i64 v.r.sp, .bool v.r.un, .int .i64 v.r.tr, .bool v.r.good, .string v.dn, .int .i64 v.dl, .slice A n c] 35) = W0 at *
          obtain ⟨c0, c1, c2, c3, c4, c5, c6, c7, c8, c9, c10, c11⟩ := evc (v := v) HX.out
          go_wp2
          go_ret
          exact ⟨by rw [HQ.out]; simp [h3], HW.out⟩
      · have HQ : Hid (replyG v = false) := Lib.hid (by rw [HN.out, decide_eq_true h1, decide_eq_false h2]; rfl)
        have HW := Lib.hid ((Below.refl w.heap.size w).alloc (Nat.le_refl _) (.cells #[.int .i64 v.k, .int .i64 v.now, .int .i64 v.sg, .string v.nm, .int .i64 v.r.sg, .int .i64 v.r.sp, .bool v.r.un, .int .i64 v.r.tr, .bool v.r.good, .string v.dn, .int .i64 v.dl, .slice A n c] 35))
        have HX := Lib.hid (Box.new w 35 #[.int .i64 v.k, .int .i64 v.now, .int .i64 v.sg, .string v.nm, .int .i64 v.r.sg, .int .i64 v.r.sp, .bool v.r.un, .int .i64 v.r.tr, .bool v.r.good, .string v.dn, .int .i64 v.dl, .slice A n c])
        go_enter Tryz.func39, Tryz.ntmps39
        go_upto_region 1 with fail
        generalize w.alloc (.cells #[.int .i64 v.k, .int .i64 v.now, .int .i64 v.sg, .string v.nm, .int .i64 v.r.sg, .int .i64 v.r.sp, .bool v.r.un, .int .i64 v.r.tr, .bool v.r.good, .string v.dn, .int .i64 v.dl, .slice A n c] 35) = W0 at *
        obtain ⟨c0, c1, c2, c3, c4, c5, c6, c7, c8, c9, c10, c11⟩ := evc (v := v) HX.out
        go_wp2
        go_ret
        exact ⟨by rw [HQ.out]; rfl, HW.out⟩
    · have HQ : Hid (replyG v = false) := Lib.hid (by rw [HN.out, decide_eq_false h1]; rfl)
      have HW := Lib.hid ((Below.refl w.heap.size w).alloc (Nat.le_refl _) (.cells #[.int .i64 v.k, .int .i64 v.now, .int .i64 v.sg, .string v.nm, .int .i64 v.r.sg, .int .i64 v.r.sp, .bool v.r.un, .int .i64 v.r.tr, .bool v.r.good, .string v.dn, .int .i64 v.dl, .slice A n c] 35))
      have HX := Lib.hid (Box.new w 35 #[.int .i64 v.k, .int .i64 v.now, .int .i64 v.sg, .string v.nm, .int .i64 v.r.sg, .int .i64 v.r.sp, .bool v.r.un, .int .i64 v.r.tr, .bool v.r.good, .string v.dn, .int .i64 v.dl, .slice A n c])
      go_enter Tryz.func39, Tryz.ntmps39
      go_upto_region 1 with fail
      generalize w.alloc (.cells #[.int .i64 v.k, .int .i64 v.now, .int .i64 v.sg, .string v.nm, .int .i64 v.r.sg, .int .i64 v.r.sp, .bool v.r.un, .int .i64 v.r.tr, .bool v.r.good, .string v.dn, .int .i64 v.dl, .slice A n c] 35) = W0 at *
      obtain ⟨c0, c1, c2, c3, c4, c5, c6, c7, c8, c9, c10, c11⟩ := evc (v := v) HX.out
      go_wp2
      go_ret
      exact ⟨by rw [HQ.out]; rfl, HW.out⟩
  · have HN : Hid (replyG v = eqRp v.r rp0) := Lib.hid (by unfold replyG; rw [if_neg hk])
    have gk : (v.k == 3) = false := by simpa using hk
    have heq : ∀ u, (binOp .eql 30 (.agg #[.int .i64 v.r.sg, .int .i64 v.r.sp, .bool v.r.un, .int .i64 v.r.tr, .bool v.r.good]) (.agg #[.int .i64 0, .int .i64 0, .bool false, .int .i64 0, .bool false])).run Tryz.prog u = .ok (.bool (eqRp v.r rp0)) u := fun u => eql_reply v.r rp0 u
    have hgd := guard_reply
    clear hk
    have HW := Lib.hid ((Below.refl w.heap.size w).alloc (Nat.le_refl _) (.cells #[.int .i64 v.k, .int .i64 v.now, .int .i64 v.sg, .string v.nm, .int .i64 v.r.sg, .int .i64 v.r.sp, .bool v.r.un, .int .i64 v.r.tr, .bool v.r.good, .string v.dn, .int .i64 v.dl, .slice A n c] 35))
    have HX := Lib.hid (Box.new w 35 #[.int .i64 v.k, .int .i64 v.now, .int .i64 v.sg, .string v.nm, .int .i64 v.r.sg, .int .i64 v.r.sp, .bool v.r.un, .int .i64 v.r.tr, .bool v.r.good, .string v.dn, .int .i64 v.dl, .slice A n c])
    go_enter Tryz.func39, Tryz.ntmps39
    go_upto_region 1 with fail
    generalize w.alloc (.cells #[.int .i64 v.k, .int .i64 v.now, .int .i64 v.sg, .string v.nm, .int .i64 v.r.sg, .int .i64 v.r.sp, .bool v.r.un, .int .i64 v.r.tr, .bool v.r.good, .string v.dn, .int .i64 v.dl, .slice A n c] 35) = W0 at *
    obtain ⟨c0, c1, c2, c3, c4, c5, c6, c7, c8, c9, c10, c11⟩ := evc (v := v) HX.out
    go_wp2
    go_ret
    exact ⟨by rw [HN.out]; rfl, HW.out⟩
set_option maxHeartbeats 2000000 in
set_option maxRecDepth 100000 in
theorem good_ev (v : Ev) (A : Option Addr) (n c : Nat) (w : World) (h : EvIn w v A n c) : Calls Tryz.prog 16 #[.agg #[.int .i64 v.k, .int .i64 v.now, .int .i64 v.sg, .string v.nm, .int .i64 v.r.sg, .int .i64 v.r.sp, .bool v.r.un, .int .i64 v.r.tr, .bool v.r.good, .string v.dn, .int .i64 v.dl, .slice A n c]] w fun e w' => e = .returned (.bool (goodE v)) ∧ Below w.heap.size w w' := by
  have HK := Lib.hid (isKind_any v.k)
  have HT := Lib.hid (fun W => Bo.tgood_any v.now W)
  have HGN : Hid (∀ W, Below w.heap.size w W → Calls Tryz.prog 37 #[.agg #[.int .i64 v.k, .int .i64 v.now, .int .i64 v.sg, .string v.nm, .int .i64 v.r.sg, .int .i64 v.r.sp, .bool v.r.un, .int .i64 v.r.tr, .bool v.r.good, .string v.dn, .int .i64 v.dl, .slice A n c]] W fun e w' => e = .returned (.bool (nameG v)) ∧ Below W.heap.size W w') := Lib.hid fun W hb => goodName_any v A n c W (h.on hb)
  have HGD : Hid (∀ W, Below w.heap.size w W → Calls Tryz.prog 38 #[.agg #[.int .i64 v.k, .int .i64 v.now, .int .i64 v.sg, .string v.nm, .int .i64 v.r.sg, .int .i64 v.r.sp, .bool v.r.un, .int .i64 v.r.tr, .bool v.r.good, .string v.dn, .int .i64 v.dl, .slice A n c]] W fun e w' => e = .returned (.bool (defG v)) ∧ Below W.heap.size W w') := Lib.hid fun W hb => goodDef_any v A n c W (h.on hb)
  have HGR := Lib.hid (goodReply_any v A n c)
  have HQ : Hid (goodE v = (kindG v.k && Bo.goodN v.now && decide (0 ≤ v.sg) && nameG v && defG v && replyG v)) := Lib.hid (by unfold goodE Bo.goodN; simp [Bool.and_assoc])
  clear h
  cases a0 : kindG v.k with
  | false =>
    rw [a0] at HK HQ
    clear a0
    have HW := Lib.hid ((Below.refl w.heap.size w).alloc (Nat.le_refl _) (.cells #[.int .i64 v.k, .int .i64 v.now, .int .i64 v.sg, .string v.nm, .int .i64 v.r.sg, .int .i64 v.r.sp, .bool v.r.un, .int .i64 v.r.tr, .bool v.r.good, .string v.dn, .int .i64 v.dl, .slice A n c] 35))
    have HX := Lib.hid (Box.new w 35 #[.int .i64 v.k, .int .i64 v.now, .int .i64 v.sg, .string v.nm, .int .i64 v.r.sg, .int .i64 v.r.sp, .bool v.r.un, .int .i64 v.r.tr, .bool v.r.good, .string v.dn, .int .i64 v.dl, .slice A n c])
    go_enter Tryz.func16, Tryz.ntmps16
    go_upto_region 1 with fail
    generalize w.alloc (.cells #[.int .i64 v.k, .int .i64 v.now, .int .i64 v.sg, .string v.nm, .int .i64 v.r.sg, .int .i64 v.r.sp, .bool v.r.un, .int .i64 v.r.tr, .bool v.r.good, .string v.dn, .int .i64 v.dl, .slice A n c] 35) = W0 at *
    obtain ⟨c0, c1, c2, c3, c4, c5, c6, c7, c8, c9, c10, c11⟩ := evc (v := v) HX.out
    go_wp2_with fail
    refine (HK.out _).mono ?_
    rintro e w1 ⟨rfl, rfl⟩
    go_wp2
    go_ret
    exact ⟨by rw [HQ.out]; rfl, HW.out⟩
  | true =>
    rw [a0] at HK HQ
    clear a0
    cases a1 : Bo.goodN v.now with
    | false =>
      rw [a1] at HT HQ
      clear a1
      have HW := Lib.hid ((Below.refl w.heap.size w).alloc (Nat.le_refl _) (.cells #[.int .i64 v.k, .int .i64 v.now, .int .i64 v.sg, .string v.nm, .int .i64 v.r.sg, .int .i64 v.r.sp, .bool v.r.un, .int .i64 v.r.tr, .bool v.r.good, .string v.dn, .int .i64 v.dl, .slice A n c] 35))
      have HX := Lib.hid (Box.new w 35 #[.int .i64 v.k, .int .i64 v.now, .int .i64 v.sg, .string v.nm, .int .i64 v.r.sg, .int .i64 v.r.sp, .bool v.r.un, .int .i64 v.r.tr, .bool v.r.good, .string v.dn, .int .i64 v.dl, .slice A n c])
      go_enter Tryz.func16, Tryz.ntmps16
      go_upto_region 1 with fail
      generalize w.alloc (.cells #[.int .i64 v.k, .int .i64 v.now, .int .i64 v.sg, .string v.nm, .int .i64 v.r.sg, .int .i64 v.r.sp, .bool v.r.un, .int .i64 v.r.tr, .bool v.r.good, .string v.dn, .int .i64 v.dl, .slice A n c] 35) = W0 at *
      obtain ⟨c0, c1, c2, c3, c4, c5, c6, c7, c8, c9, c10, c11⟩ := evc (v := v) HX.out
      go_wp2_with fail
      refine (HK.out _).mono ?_
      rintro e w1 ⟨rfl, rfl⟩
      go_wp2_with fail
      refine (HT.out _).mono ?_
      rintro e w2 ⟨rfl, rfl⟩
      go_wp2
      go_ret
      exact ⟨by rw [HQ.out]; rfl, HW.out⟩
    | true =>
      rw [a1] at HT HQ
      clear a1
      cases a2 : decide (0 ≤ v.sg) with
      | false =>
        rw [a2] at HQ
        have gs : v.sg < 0 := by have := of_decide_eq_false a2; omega
        clear a2
        have HW := Lib.hid ((Below.refl w.heap.size w).alloc (Nat.le_refl _) (.cells #[.int .i64 v.k, .int .i64 v.now, .int .i64 v.sg, .string v.nm, .int .i64 v.r.sg, .int .i64 v.r.sp, .bool v.r.un, .int .i64 v.r.tr, .bool v.r.good, .string v.dn, .int .i64 v.dl, .slice A n c] 35))
        have HX := Lib.hid (Box.new w 35 #[.int .i64 v.k, .int .i64 v.now, .int .i64 v.sg, .string v.nm, .int .i64 v.r.sg, .int .i64 v.r.sp, .bool v.r.un, .int .i64 v.r.tr, .bool v.r.good, .string v.dn, .int .i64 v.dl, .slice A n c])
        go_enter Tryz.func16, Tryz.ntmps16
        go_upto_region 1 with fail
        generalize w.alloc (.cells #[.int .i64 v.k, .int .i64 v.now, .int .i64 v.sg, .string v.nm, .int .i64 v.r.sg, .int .i64 v.r.sp, .bool v.r.un, .int .i64 v.r.tr, .bool v.r.good, .string v.dn, .int .i64 v.dl, .slice A n c] 35) = W0 at *
        obtain ⟨c0, c1, c2, c3, c4, c5, c6, c7, c8, c9, c10, c11⟩ := evc (v := v) HX.out
        go_wp2_with fail
        refine (HK.out _).mono ?_
        rintro e w1 ⟨rfl, rfl⟩
        go_wp2_with fail
        refine (HT.out _).mono ?_
        rintro e w2 ⟨rfl, rfl⟩
        go_wp2
        go_ret
        exact ⟨by rw [HQ.out]; rfl, HW.out⟩
      | true =>
        rw [a2] at HQ
        have gs : ¬ v.sg < 0 := by have := of_decide_eq_true a2; omega
        clear a2
        cases a3 : nameG v with
        | false =>
          rw [a3] at HGN HQ
          clear a3
          have HW := Lib.hid ((Below.refl w.heap.size w).alloc (Nat.le_refl _) (.cells #[.int .i64 v.k, .int .i64 v.now, .int .i64 v.sg, .string v.nm, .int .i64 v.r.sg, .int .i64 v.r.sp, .bool v.r.un, .int .i64 v.r.tr, .bool v.r.good, .string v.dn, .int .i64 v.dl, .slice A n c] 35))
          have HX := Lib.hid (Box.new w 35 #[.int .i64 v.k, .int .i64 v.now, .int .i64 v.sg, .string v.nm, .int .i64 v.r.sg, .int .i64 v.r.sp, .bool v.r.un, .int .i64 v.r.tr, .bool v.r.good, .string v.dn, .int .i64 v.dl, .slice A n c])
          go_enter Tryz.func16, Tryz.ntmps16
          go_upto_region 1 with fail
          generalize w.alloc (.cells #[.int .i64 v.k, .int .i64 v.now, .int .i64 v.sg, .string v.nm, .int .i64 v.r.sg, .int .i64 v.r.sp, .bool v.r.un, .int .i64 v.r.tr, .bool v.r.good, .string v.dn, .int .i64 v.dl, .slice A n c] 35) = W0 at *
          obtain ⟨c0, c1, c2, c3, c4, c5, c6, c7, c8, c9, c10, c11⟩ := evc (v := v) HX.out
          go_wp2_with fail
          refine (HK.out _).mono ?_
          rintro e w1 ⟨rfl, rfl⟩
          go_wp2_with fail
          refine (HT.out _).mono ?_
          rintro e w2 ⟨rfl, rfl⟩
          go_wp2_with fail
          refine (HGN.out _ HW.out).mono ?_
          rintro e w3 ⟨rfl, hb⟩
          have HW3 := Lib.hid (HW.out.trans (hb.mono HW.out.size))
          have HX3 := Lib.hid (HX.out.below hb HX.out.lt)
          clear hb c0 c1 c2 c3 c4 c5 c6 c7 c8 c9 c10 c11
          obtain ⟨c0, c1, c2, c3, c4, c5, c6, c7, c8, c9, c10, c11⟩ := evc (v := v) HX3.out
          go_wp2
          go_ret
          exact ⟨by rw [HQ.out]; rfl, HW3.out⟩
        | true =>
          rw [a3] at HGN HQ
          clear a3
          cases a4 : defG v with
          | false =>
            rw [a4] at HGD HQ
            clear a4
            have HW := Lib.hid ((Below.refl w.heap.size w).alloc (Nat.le_refl _) (.cells #[.int .i64 v.k, .int .i64 v.now, .int .i64 v.sg, .string v.nm, .int .i64 v.r.sg, .int .i64 v.r.sp, .bool v.r.un, .int .i64 v.r.tr, .bool v.r.good, .string v.dn, .int .i64 v.dl, .slice A n c] 35))
            have HX := Lib.hid (Box.new w 35 #[.int .i64 v.k, .int .i64 v.now, .int .i64 v.sg, .string v.nm, .int .i64 v.r.sg, .int .i64 v.r.sp, .bool v.r.un, .int .i64 v.r.tr, .bool v.r.good, .string v.dn, .int .i64 v.dl, .slice A n c])
            go_enter Tryz.func16, Tryz.ntmps16
            go_upto_region 1 with fail
            generalize w.alloc (.cells #[.int .i64 v.k, .int .i64 v.now, .int .i64 v.sg, .string v.nm, .int .i64 v.r.sg, .int .i64 v.r.sp, .bool v.r.un, .int .i64 v.r.tr, .bool v.r.good, .string v.dn, .int .i64 v.dl, .slice A n c] 35) = W0 at *
            obtain ⟨c0, c1, c2, c3, c4, c5, c6, c7, c8, c9, c10, c11⟩ := evc (v := v) HX.out
            go_wp2_with fail
            refine (HK.out _).mono ?_
            rintro e w1 ⟨rfl, rfl⟩
            go_wp2_with fail
            refine (HT.out _).mono ?_
            rintro e w2 ⟨rfl, rfl⟩
            go_wp2_with fail
            refine (HGN.out _ HW.out).mono ?_
            rintro e w3 ⟨rfl, hb⟩
            have HW3 := Lib.hid (HW.out.trans (hb.mono HW.out.size))
            have HX3 := Lib.hid (HX.out.below hb HX.out.lt)
            clear hb c0 c1 c2 c3 c4 c5 c6 c7 c8 c9 c10 c11
            obtain ⟨c0, c1, c2, c3, c4, c5, c6, c7, c8, c9, c10, c11⟩ := evc (v := v) HX3.out
            go_wp2_with fail
            refine (HGD.out _ HW3.out).mono ?_
            rintro e w4 ⟨rfl, hb⟩
            have HW4 := Lib.hid (HW3.out.trans (hb.mono HW3.out.size))
            have HX4 := Lib.hid (HX3.out.below hb HX3.out.lt)
            clear hb c0 c1 c2 c3 c4 c5 c6 c7 c8 c9 c10 c11
            obtain ⟨c0, c1, c2, c3, c4, c5, c6, c7, c8, c9, c10, c11⟩ := evc (v := v) HX4.out
            go_wp2
            go_ret
            exact ⟨by rw [HQ.out]; rfl, HW4.out⟩
          | true =>
            rw [a4] at HGD HQ
            clear a4
            cases a5 : replyG v with
            | false =>
              rw [a5] at HGR HQ
              clear a5
              have HW := Lib.hid ((Below.refl w.heap.size w).alloc (Nat.le_refl _) (.cells #[.int .i64 v.k, .int .i64 v.now, .int .i64 v.sg, .string v.nm, .int .i64 v.r.sg, .int .i64 v.r.sp, .bool v.r.un, .int .i64 v.r.tr, .bool v.r.good, .string v.dn, .int .i64 v.dl, .slice A n c] 35))
              have HX := Lib.hid (Box.new w 35 #[.int .i64 v.k, .int .i64 v.now, .int .i64 v.sg, .string v.nm, .int .i64 v.r.sg, .int .i64 v.r.sp, .bool v.r.un, .int .i64 v.r.tr, .bool v.r.good, .string v.dn, .int .i64 v.dl, .slice A n c])
              go_enter Tryz.func16, Tryz.ntmps16
              go_upto_region 1 with fail
              generalize w.alloc (.cells #[.int .i64 v.k, .int .i64 v.now, .int .i64 v.sg, .string v.nm, .int .i64 v.r.sg, .int .i64 v.r.sp, .bool v.r.un, .int .i64 v.r.tr, .bool v.r.good, .string v.dn, .int .i64 v.dl, .slice A n c] 35) = W0 at *
              obtain ⟨c0, c1, c2, c3, c4, c5, c6, c7, c8, c9, c10, c11⟩ := evc (v := v) HX.out
              go_wp2_with fail
              refine (HK.out _).mono ?_
              rintro e w1 ⟨rfl, rfl⟩
              go_wp2_with fail
              refine (HT.out _).mono ?_
              rintro e w2 ⟨rfl, rfl⟩
              go_wp2_with fail
              refine (HGN.out _ HW.out).mono ?_
              rintro e w3 ⟨rfl, hb⟩
              have HW3 := Lib.hid (HW.out.trans (hb.mono HW.out.size))
              have HX3 := Lib.hid (HX.out.below hb HX.out.lt)
              clear hb c0 c1 c2 c3 c4 c5 c6 c7 c8 c9 c10 c11
              obtain ⟨c0, c1, c2, c3, c4, c5, c6, c7, c8, c9, c10, c11⟩ := evc (v := v) HX3.out
              go_wp2_with fail
              refine (HGD.out _ HW3.out).mono ?_
              rintro e w4 ⟨rfl, hb⟩
              have HW4 := Lib.hid (HW3.out.trans (hb.mono HW3.out.size))
              have HX4 := Lib.hid (HX3.out.below hb HX3.out.lt)
              clear hb c0 c1 c2 c3 c4 c5 c6 c7 c8 c9 c10 c11
              obtain ⟨c0, c1, c2, c3, c4, c5, c6, c7, c8, c9, c10, c11⟩ := evc (v := v) HX4.out
              go_wp2_with fail
              refine (HGR.out _).mono ?_
              rintro e w5 ⟨rfl, hb⟩
              have HW5 := Lib.hid (HW4.out.trans (hb.mono HW4.out.size))
              have HX5 := Lib.hid (HX4.out.below hb HX4.out.lt)
              clear hb c0 c1 c2 c3 c4 c5 c6 c7 c8 c9 c10 c11
              obtain ⟨c0, c1, c2, c3, c4, c5, c6, c7, c8, c9, c10, c11⟩ := evc (v := v) HX5.out
              go_wp2
              go_ret
              exact ⟨by rw [HQ.out]; rfl, HW5.out⟩
            | true =>
              rw [a5] at HGR HQ
              clear a5
              have HW := Lib.hid ((Below.refl w.heap.size w).alloc (Nat.le_refl _) (.cells #[.int .i64 v.k, .int .i64 v.now, .int .i64 v.sg, .string v.nm, .int .i64 v.r.sg, .int .i64 v.r.sp, .bool v.r.un, .int .i64 v.r.tr, .bool v.r.good, .string v.dn, .int .i64 v.dl, .slice A n c] 35))
              have HX := Lib.hid (Box.new w 35 #[.int .i64 v.k, .int .i64 v.now, .int .i64 v.sg, .string v.nm, .int .i64 v.r.sg, .int .i64 v.r.sp, .bool v.r.un, .int .i64 v.r.tr, .bool v.r.good, .string v.dn, .int .i64 v.dl, .slice A n c])
              go_enter Tryz.func16, Tryz.ntmps16
              go_upto_region 1 with fail
              generalize w.alloc (.cells #[.int .i64 v.k, .int .i64 v.now, .int .i64 v.sg, .string v.nm, .int .i64 v.r.sg, .int .i64 v.r.sp, .bool v.r.un, .int .i64 v.r.tr, .bool v.r.good, .string v.dn, .int .i64 v.dl, .slice A n c] 35) = W0 at *
              obtain ⟨c0, c1, c2, c3, c4, c5, c6, c7, c8, c9, c10, c11⟩ := evc (v := v) HX.out
              go_wp2_with fail
              refine (HK.out _).mono ?_
              rintro e w1 ⟨rfl, rfl⟩
              go_wp2_with fail
              refine (HT.out _).mono ?_
              rintro e w2 ⟨rfl, rfl⟩
              go_wp2_with fail
              refine (HGN.out _ HW.out).mono ?_
              rintro e w3 ⟨rfl, hb⟩
              have HW3 := Lib.hid (HW.out.trans (hb.mono HW.out.size))
              have HX3 := Lib.hid (HX.out.below hb HX.out.lt)
              clear hb c0 c1 c2 c3 c4 c5 c6 c7 c8 c9 c10 c11
              obtain ⟨c0, c1, c2, c3, c4, c5, c6, c7, c8, c9, c10, c11⟩ := evc (v := v) HX3.out
              go_wp2_with fail
              refine (HGD.out _ HW3.out).mono ?_
              rintro e w4 ⟨rfl, hb⟩
              have HW4 := Lib.hid (HW3.out.trans (hb.mono HW3.out.size))
              have HX4 := Lib.hid (HX3.out.below hb HX3.out.lt)
              clear hb c0 c1 c2 c3 c4 c5 c6 c7 c8 c9 c10 c11
              obtain ⟨c0, c1, c2, c3, c4, c5, c6, c7, c8, c9, c10, c11⟩ := evc (v := v) HX4.out
              go_wp2_with fail
              refine (HGR.out _).mono ?_
              rintro e w5 ⟨rfl, hb⟩
              have HW5 := Lib.hid (HW4.out.trans (hb.mono HW4.out.size))
              have HX5 := Lib.hid (HX4.out.below hb HX4.out.lt)
              clear hb c0 c1 c2 c3 c4 c5 c6 c7 c8 c9 c10 c11
              obtain ⟨c0, c1, c2, c3, c4, c5, c6, c7, c8, c9, c10, c11⟩ := evc (v := v) HX5.out
              go_wp2
              go_ret
              exact ⟨by rw [HQ.out]; rfl, HW5.out⟩
end Go.Proofs.YteejocnogpaifaaGreatDoor.Co
