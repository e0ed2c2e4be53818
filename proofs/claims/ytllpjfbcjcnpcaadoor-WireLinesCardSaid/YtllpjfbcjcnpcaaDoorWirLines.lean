/-
  WireLines: the lines of any command and reply are as the document says; a right one is read from its line; what is read of any line is right, and has just that line.
  Conditions: none but the row's.
-/
import Derived.Test.YtllpjfbcjcnpcaaDoorWirAnsMath
import Derived.ChangeMaps5
namespace Go.Proofs.YtllpjfbcjcnpcaaDoor.wireLines
open Go.ChangeShapes Go.WideShapes Go.ChangeAt Go.RowKit
open Go.Proofs.YtllpjfbcjcnpcaaDoor.El
open Go.Proofs.YtllpjfbcjcnpcaaDoor.Df (bytes_inj)
open Go.Proofs.YtllpjfbcjcnpcaaDoor.Wi
open Go.ChangeMaps (open_string shut_string)

theorem line_parts (c : Cm) : c.pt.size ≤ (lineL c).length ∧ c.ky.size ≤ (lineL c).length := by
  have h5 := len_is c.pt
  have h6 := len_is c.ky
  unfold lineL
  simp only [List.length_append, List.length_cons, List.length_nil]
  omega
def calls (w : World) (f : FuncId) (args : Array Value) (v : Value) : Prop := ∀ u, Below w.heap.size w u → Calls Tryd.prog f args u fun e w' => e = .returned v ∧ Below u.heap.size u w'
/-- a command that is right: what its line is, and is read as -/
theorem cmd_true {c : Cm} {w : World} (hG : Gl w) (hg : Wi.Good c) (hp : c.pt.size ≤ 300) (hk : c.ky.size ≤ 300) :
    lnC c = lineL c ∧ (∀ u, Below w.heap.size w u → Calls Tryd.prog 12 #[.string (tx (lnC c))] u fun e w' => e = .returned (.tuple #[.agg #[.int .i64 c.sg, .int .i64 c.st, .bool c.un, .int .i64 c.tr, .string c.pt, .string c.ky], .bool true]) ∧ Below u.heap.size u w') ∧
    (∀ u, Below w.heap.size w u → Calls Tryd.prog 13 #[.agg #[.int .i64 c.sg, .int .i64 c.st, .bool c.un, .int .i64 c.tr, .string c.pt, .string c.ky]] u fun e w' => e = .returned (.string (tx (lnC c))) ∧ Below u.heap.size u w') := by
  have e1 : lnC c = lineL c := by unfold lnC; rw [good_is hg]; rfl
  rw [e1]
  refine ⟨rfl, fun u hu => ?_, fun u hu => rcommandLine_any c u hg (by omega) (by omega)⟩
  refine Calls.mono (readCommand_any (lineL c) u (hG.on hu) (by have := line_small hg hp hk; omega)) ?_
  rintro e w' ⟨d, ok, rfl, hI, hb⟩
  obtain ⟨rfl, rfl⟩ := cmd_self hg hI
  exact ⟨rfl, hb⟩
theorem rep_true {c : Rp} {w : World} (hG : Gl w) (hg : GoodR c) :
    lnR c = lineR c ∧ (∀ u, Below w.heap.size w u → Calls Tryd.prog 14 #[.string (tx (lnR c))] u fun e w' => e = .returned (.tuple #[.agg #[.int .i64 c.sg, .int .i64 c.st, .bool c.un, .int .i64 c.tr, .bool c.gd], .bool true]) ∧ Below u.heap.size u w') ∧
    (∀ u, Below w.heap.size w u → Calls Tryd.prog 15 #[.agg #[.int .i64 c.sg, .int .i64 c.st, .bool c.un, .int .i64 c.tr, .bool c.gd]] u fun e w' => e = .returned (.string (tx (lnR c))) ∧ Below u.heap.size u w') := by
  have e1 : lnR c = lineR c := by unfold lnR; rw [show goodR c = true from decide_eq_true hg]; rfl
  rw [e1]
  refine ⟨rfl, fun u hu => ?_, fun u hu => rreplyLine_any c u hg⟩
  refine Calls.mono (readReply_any (lineR c) u (hG.on hu) (by have := line_smallR hg; omega)) ?_
  rintro e w' ⟨d, ok, rfl, hI, hb⟩
  obtain ⟨rfl, rfl⟩ := rep_self hg hI
  exact ⟨rfl, hb⟩
/-- a command that is read of a line: it is right, and has just that line -/
theorem cmd_of {d : Cm} {l : List UInt8} (hl : l.length ≤ 300) (hg : Wi.Good d) (he : lineL d = l) (u : World) :
    Calls Tryd.prog 7 #[.agg #[.int .i64 d.sg, .int .i64 d.st, .bool d.un, .int .i64 d.tr, .string d.pt, .string d.ky]] u (fun e w' => e = .returned (.bool true) ∧ Below u.heap.size u w') ∧
    Calls Tryd.prog 13 #[.agg #[.int .i64 d.sg, .int .i64 d.st, .bool d.un, .int .i64 d.tr, .string d.pt, .string d.ky]] u (fun e w' => e = .returned (.string (tx l)) ∧ Below u.heap.size u w') := by
  have hp := line_parts d
  rw [he] at hp
  have h1 := rcommand_any d u (by omega) (by omega)
  have h2 := rcommandLine_any d u hg (by omega) (by omega)
  rw [good_is hg] at h1
  rw [he] at h2
  exact ⟨h1, h2⟩
theorem rep_of {d : Rp} {l : List UInt8} (hg : GoodR d) (he : lineR d = l) (u : World) :
    Calls Tryd.prog 9 #[.agg #[.int .i64 d.sg, .int .i64 d.st, .bool d.un, .int .i64 d.tr, .bool d.gd]] u (fun e w' => e = .returned (.bool true) ∧ Below u.heap.size u w') ∧
    Calls Tryd.prog 15 #[.agg #[.int .i64 d.sg, .int .i64 d.st, .bool d.un, .int .i64 d.tr, .bool d.gd]] u (fun e w' => e = .returned (.string (tx l)) ∧ Below u.heap.size u w') := by
  have h1 := reply_any19 d u
  have h2 := rreplyLine_any d u hg
  rw [show goodR d = true from decide_eq_true hg] at h1
  rw [he] at h2
  exact ⟨h1, h2⟩
theorem nq_cmd (c : Cm) (u : World) : (binOp .neq 23 (.agg #[.int .i64 c.sg, .int .i64 c.st, .bool c.un, .int .i64 c.tr, .string c.pt, .string c.ky]) (.agg #[.int .i64 c.sg, .int .i64 c.st, .bool c.un, .int .i64 c.tr, .string c.pt, .string c.ky])).run Tryd.prog u = .ok (.bool false) u := by
  have := neq_cmd c c u
  rw [eqC_same] at this
  exact this
theorem nq_rep (c : Rp) (u : World) : (binOp .neq 25 (.agg #[.int .i64 c.sg, .int .i64 c.st, .bool c.un, .int .i64 c.tr, .bool c.gd]) (.agg #[.int .i64 c.sg, .int .i64 c.st, .bool c.un, .int .i64 c.tr, .bool c.gd])).run Tryd.prog u = .ok (.bool false) u := by
  have := neq_rep c c u
  rw [eqR_same] at this
  exact this
theorem ng_cmd (c d : Cm) (a b : Operand) (u : World) : (eqGuard .neq 23 a b (.agg #[.int .i64 c.sg, .int .i64 c.st, .bool c.un, .int .i64 c.tr, .string c.pt, .string c.ky]) (.agg #[.int .i64 d.sg, .int .i64 d.st, .bool d.un, .int .i64 d.tr, .string d.pt, .string d.ky])).run Tryd.prog u = .ok () u := guard_cmd .neq a b _ _ u
theorem ng_rep (c d : Rp) (a b : Operand) (u : World) : (eqGuard .neq 25 a b (.agg #[.int .i64 c.sg, .int .i64 c.st, .bool c.un, .int .i64 c.tr, .bool c.gd]) (.agg #[.int .i64 d.sg, .int .i64 d.st, .bool d.un, .int .i64 d.tr, .bool d.gd])).run Tryd.prog u = .ok () u := guard_rep .neq a b _ _ u
theorem qq_rep (c : Rp) (u : World) : (binOp .eql 25 (.agg #[.int .i64 c.sg, .int .i64 c.st, .bool c.un, .int .i64 c.tr, .bool c.gd]) (.agg #[.int .i64 c.sg, .int .i64 c.st, .bool c.un, .int .i64 c.tr, .bool c.gd])).run Tryd.prog u = .ok (.bool true) u := by
  have := eql_rep c c u
  rw [eqR_same] at this
  exact this
theorem qg_rep (c d : Rp) (a b : Operand) (u : World) : (eqGuard .eql 25 a b (.agg #[.int .i64 c.sg, .int .i64 c.st, .bool c.un, .int .i64 c.tr, .bool c.gd]) (.agg #[.int .i64 d.sg, .int .i64 d.st, .bool d.un, .int .i64 d.tr, .bool d.gd])).run Tryd.prog u = .ok () u := guard_rep .eql a b _ _ u
set_option maxRecDepth 100000 in
set_option maxHeartbeats 16000000 in
theorem walk (c : Cm) (r : Rp) (l : List UInt8) (good : Bool) (w : World) (hG : Gl w) :
    Calls Tryd.prog 3 #[.agg #[.int .i64 c.sg, .int .i64 c.st, .bool c.un, .int .i64 c.tr, .string c.pt, .string c.ky], .agg #[.int .i64 r.sg, .int .i64 r.st, .bool r.un, .int .i64 r.tr, .bool r.gd], .string (tx l), .bool good] w fun e w' => e = .returned (.bool true) ∧ Below w.heap.size w w' := by
  have HA := Lib.hid (fun u (hu : Below w.heap.size w u) => awake_any u (hG.on hu))
  have HB0 := Lib.hid (((Below.refl w.heap.size w).alloc (Nat.le_refl _) (.cells #[.int .i64 c.sg, .int .i64 c.st, .bool c.un, .int .i64 c.tr, .string c.pt, .string c.ky] 23)).alloc (by simp) (.cells #[.int .i64 r.sg, .int .i64 r.st, .bool r.un, .int .i64 r.tr, .bool r.gd] 25))
  have Xc0 := Lib.hid ((Box.new w 23 #[.int .i64 c.sg, .int .i64 c.st, .bool c.un, .int .i64 c.tr, .string c.pt, .string c.ky]).alloc (.cells #[.int .i64 r.sg, .int .i64 r.st, .bool r.un, .int .i64 r.tr, .bool r.gd] 25))
  have Xr0 := Lib.hid (box_new2 w (.cells #[.int .i64 c.sg, .int .i64 c.st, .bool c.un, .int .i64 c.tr, .string c.pt, .string c.ky] 23) 25 #[.int .i64 r.sg, .int .i64 r.st, .bool r.un, .int .i64 r.tr, .bool r.gd])
  by_cases h1 : 300 < c.pt.size
  · clear hG
    go_enter Tryd.func3, Tryd.ntmps3
    go_wp2_with (go_at_call 5; (with_reducible refine (HA.out _ HB0.out).mono ?_); rintro e w1 ⟨rfl, hb⟩; have HB1 := Lib.hid (HB0.out.trans (hb.mono HB0.out.size)); have Xc1 := Lib.hid (Xc0.out.below hb Xc0.out.lt); have Xr1 := Lib.hid (Xr0.out.below hb Xr0.out.lt); have lc1 := Xc1.out.lt; have c1_0 := Xc1.out.cell 0; have c1_1 := Xc1.out.cell 1; have c1_2 := Xc1.out.cell 2; have c1_3 := Xc1.out.cell 3; have c1_4 := Xc1.out.cell 4; have c1_5 := Xc1.out.cell 5; clear hb)
    go_ret
    exact ⟨rfl, HB1.out⟩
  by_cases h2 : 300 < c.ky.size
  · clear hG
    go_enter Tryd.func3, Tryd.ntmps3
    go_wp2_with (go_at_call 5; (with_reducible refine (HA.out _ HB0.out).mono ?_); rintro e w1 ⟨rfl, hb⟩; have HB1 := Lib.hid (HB0.out.trans (hb.mono HB0.out.size)); have Xc1 := Lib.hid (Xc0.out.below hb Xc0.out.lt); have Xr1 := Lib.hid (Xr0.out.below hb Xr0.out.lt); have lc1 := Xc1.out.lt; have c1_0 := Xc1.out.cell 0; have c1_1 := Xc1.out.cell 1; have c1_2 := Xc1.out.cell 2; have c1_3 := Xc1.out.cell 3; have c1_4 := Xc1.out.cell 4; have c1_5 := Xc1.out.cell 5; clear hb)
    go_ret
    exact ⟨rfl, HB1.out⟩
  by_cases h3 : 300 < (tx l).size
  · clear hG
    go_enter Tryd.func3, Tryd.ntmps3
    go_wp2_with (go_at_call 5; (with_reducible refine (HA.out _ HB0.out).mono ?_); rintro e w1 ⟨rfl, hb⟩; have HB1 := Lib.hid (HB0.out.trans (hb.mono HB0.out.size)); have Xc1 := Lib.hid (Xc0.out.below hb Xc0.out.lt); have Xr1 := Lib.hid (Xr0.out.below hb Xr0.out.lt); have lc1 := Xc1.out.lt; have c1_0 := Xc1.out.cell 0; have c1_1 := Xc1.out.cell 1; have c1_2 := Xc1.out.cell 2; have c1_3 := Xc1.out.cell 3; have c1_4 := Xc1.out.cell 4; have c1_5 := Xc1.out.cell 5; clear hb)
    go_ret
    exact ⟨rfl, HB1.out⟩
  have hl : l.length ≤ 300 := by rw [tx_size] at h3; omega
  have hp : c.pt.size ≤ 300 := by omega
  have hk : c.ky.size ≤ 300 := by omega
  obtain ⟨gb, hgb⟩ : ∃ b, b = Wi.goodB c := ⟨_, rfl⟩
  obtain ⟨gr, hgr⟩ : ∃ b, b = goodR r := ⟨_, rfl⟩
  obtain ⟨L1, hL1⟩ : ∃ b, b = lnC c := ⟨_, rfl⟩
  obtain ⟨L2, hL2⟩ : ∃ b, b = lnR r := ⟨_, rfl⟩
  have HGC := Lib.hid (fun u (hu : Below w.heap.size w u) => goodCommand_any c u (hG.on hu) (by omega) (by omega))
  have HRGC := Lib.hid (fun u (hu : Below w.heap.size w u) => rcommand_any c u (by omega) (by omega))
  have HGR := Lib.hid (fun u (hu : Below w.heap.size w u) => goodReply_any r u)
  have HRGR := Lib.hid (fun u (hu : Below w.heap.size w u) => reply_any19 r u)
  have HCL := Lib.hid (fun u (hu : Below w.heap.size w u) => commandLine_any c u (hG.on hu) (by omega) (by omega))
  have HRL := Lib.hid (fun u (hu : Below w.heap.size w u) => replyLine_any r u (hG.on hu))
  rw [← hgb] at HGC HRGC
  rw [← hgr] at HGR HRGR
  rw [← hL1] at HCL
  rw [← hL2] at HRL
  have HT1 : Hid (gb = true → (∀ u, Below w.heap.size w u → Calls Tryd.prog 12 #[.string (tx L1)] u fun e w' => e = .returned (.tuple #[.agg #[.int .i64 c.sg, .int .i64 c.st, .bool c.un, .int .i64 c.tr, .string c.pt, .string c.ky], .bool true]) ∧ Below u.heap.size u w') ∧
      (∀ u, Below w.heap.size w u → Calls Tryd.prog 13 #[.agg #[.int .i64 c.sg, .int .i64 c.st, .bool c.un, .int .i64 c.tr, .string c.pt, .string c.ky]] u fun e w' => e = .returned (.string (tx L1)) ∧ Below u.heap.size u w')) := Lib.hid fun h => by
    rw [hL1]
    exact (cmd_true hG (good_yes (hgb.symm.trans h)) hp hk).2
  have HT2 : Hid (gr = true → (∀ u, Below w.heap.size w u → Calls Tryd.prog 14 #[.string (tx L2)] u fun e w' => e = .returned (.tuple #[.agg #[.int .i64 r.sg, .int .i64 r.st, .bool r.un, .int .i64 r.tr, .bool r.gd], .bool true]) ∧ Below u.heap.size u w') ∧
      (∀ u, Below w.heap.size w u → Calls Tryd.prog 15 #[.agg #[.int .i64 r.sg, .int .i64 r.st, .bool r.un, .int .i64 r.tr, .bool r.gd]] u fun e w' => e = .returned (.string (tx L2)) ∧ Below u.heap.size u w')) := Lib.hid fun h => by
    rw [hL2]
    exact (rep_true hG (of_decide_eq_true (hgr.symm.trans h))).2
  have HF1 : Hid (gb = false → ((tx L1).toList == []) = true) := Lib.hid fun h => by
    rw [hL1, ByteArray.toList_eq, tx_list]
    unfold lnC
    rw [← hgb, h]
    rfl
  have HF2 : Hid (gr = false → ((tx L2).toList == []) = true) := Lib.hid fun h => by
    rw [hL2, ByteArray.toList_eq, tx_list]
    unfold lnR
    rw [← hgr, h]
    rfl
  have HS1 := Lib.hid (fun u (hu : Below w.heap.size w u) => readCommand_any l u (hG.on hu) (by omega))
  have HS2 := Lib.hid (fun u (hu : Below w.heap.size w u) => readReply_any l u (hG.on hu) (by omega))
  have HAn := Lib.hid (fun u (hu : Below w.heap.size w u) => answer_any c good u)
  have HLen := Lib.hid hl
  clear hG hgb hgr hL1 hL2 hl hp hk
  go_enter Tryd.func3, Tryd.ntmps3
  go_upto_region 5 with (go_at_call 5; (with_reducible refine (HA.out _ HB0.out).mono ?_); rintro e w1 ⟨rfl, hb⟩; have HB1 := Lib.hid (HB0.out.trans (hb.mono HB0.out.size)); have Xc1 := Lib.hid (Xc0.out.below hb Xc0.out.lt); have Xr1 := Lib.hid (Xr0.out.below hb Xr0.out.lt); have lc1 := Xc1.out.lt; have c1_0 := Xc1.out.cell 0; have c1_1 := Xc1.out.cell 1; have c1_2 := Xc1.out.cell 2; have c1_3 := Xc1.out.cell 3; have c1_4 := Xc1.out.cell 4; have c1_5 := Xc1.out.cell 5; clear hb)
  have XC := Lib.hid Xc1.out
  have XR := Lib.hid Xr1.out
  clear c1_0 c1_1 c1_2 c1_3 c1_4 c1_5 lc1
  have kc0 : ∀ u, Below w1.heap.size w1 u → u.cell? ⟨w.heap.size, 0, none⟩ = some (.int .i64 c.sg) := fun u hu => (XC.out.below hu XC.out.lt).cell 0
  have kc1 : ∀ u, Below w1.heap.size w1 u → u.cell? ⟨w.heap.size, 1, none⟩ = some (.int .i64 c.st) := fun u hu => (XC.out.below hu XC.out.lt).cell 1
  have kc2 : ∀ u, Below w1.heap.size w1 u → u.cell? ⟨w.heap.size, 2, none⟩ = some (.bool c.un) := fun u hu => (XC.out.below hu XC.out.lt).cell 2
  have kc3 : ∀ u, Below w1.heap.size w1 u → u.cell? ⟨w.heap.size, 3, none⟩ = some (.int .i64 c.tr) := fun u hu => (XC.out.below hu XC.out.lt).cell 3
  have kc4 : ∀ u, Below w1.heap.size w1 u → u.cell? ⟨w.heap.size, 4, none⟩ = some (.string c.pt) := fun u hu => (XC.out.below hu XC.out.lt).cell 4
  have kc5 : ∀ u, Below w1.heap.size w1 u → u.cell? ⟨w.heap.size, 5, none⟩ = some (.string c.ky) := fun u hu => (XC.out.below hu XC.out.lt).cell 5
  have kr0 : ∀ u, Below w1.heap.size w1 u → u.cell? ⟨w.heap.size + 1, 0, none⟩ = some (.int .i64 r.sg) := fun u hu => (XR.out.below hu XR.out.lt).cell 0
  have kr1 : ∀ u, Below w1.heap.size w1 u → u.cell? ⟨w.heap.size + 1, 1, none⟩ = some (.int .i64 r.st) := fun u hu => (XR.out.below hu XR.out.lt).cell 1
  have kr2 : ∀ u, Below w1.heap.size w1 u → u.cell? ⟨w.heap.size + 1, 2, none⟩ = some (.bool r.un) := fun u hu => (XR.out.below hu XR.out.lt).cell 2
  have kr3 : ∀ u, Below w1.heap.size w1 u → u.cell? ⟨w.heap.size + 1, 3, none⟩ = some (.int .i64 r.tr) := fun u hu => (XR.out.below hu XR.out.lt).cell 3
  have kr4 : ∀ u, Below w1.heap.size w1 u → u.cell? ⟨w.heap.size + 1, 4, none⟩ = some (.bool r.gd) := fun u hu => (XR.out.below hu XR.out.lt).cell 4
  have E1 : Hid (∀ u, Below w1.heap.size w1 u → Calls Tryd.prog 6 #[.agg #[.int .i64 c.sg, .int .i64 c.st, .bool c.un, .int .i64 c.tr, .string c.pt, .string c.ky]] u fun e w' => e = .returned (.bool gb) ∧ Below w1.heap.size w1 w') := Lib.hid fun u hu => (HGC.out u (HB1.out.trans (hu.mono HB1.out.size))).mono fun e w' ⟨h1, h2⟩ => ⟨h1, hu.trans (h2.mono hu.size)⟩
  have E2 : Hid (∀ u, Below w1.heap.size w1 u → Calls Tryd.prog 7 #[.agg #[.int .i64 c.sg, .int .i64 c.st, .bool c.un, .int .i64 c.tr, .string c.pt, .string c.ky]] u fun e w' => e = .returned (.bool gb) ∧ Below w1.heap.size w1 w') := Lib.hid fun u hu => (HRGC.out u (HB1.out.trans (hu.mono HB1.out.size))).mono fun e w' ⟨h1, h2⟩ => ⟨h1, hu.trans (h2.mono hu.size)⟩
  have E3 : Hid (∀ u, Below w1.heap.size w1 u → Calls Tryd.prog 8 #[.agg #[.int .i64 r.sg, .int .i64 r.st, .bool r.un, .int .i64 r.tr, .bool r.gd]] u fun e w' => e = .returned (.bool gr) ∧ Below w1.heap.size w1 w') := Lib.hid fun u hu => (HGR.out u (HB1.out.trans (hu.mono HB1.out.size))).mono fun e w' ⟨h1, h2⟩ => ⟨h1, hu.trans (h2.mono hu.size)⟩
  have E4 : Hid (∀ u, Below w1.heap.size w1 u → Calls Tryd.prog 9 #[.agg #[.int .i64 r.sg, .int .i64 r.st, .bool r.un, .int .i64 r.tr, .bool r.gd]] u fun e w' => e = .returned (.bool gr) ∧ Below w1.heap.size w1 w') := Lib.hid fun u hu => (HRGR.out u (HB1.out.trans (hu.mono HB1.out.size))).mono fun e w' ⟨h1, h2⟩ => ⟨h1, hu.trans (h2.mono hu.size)⟩
  have hb1 : (gb != gb) = false := by simp
  have hb2 : (gr != gr) = false := by simp
  go_region_held3 (fun u => Below w1.heap.size w1 u) (first | exact Below.refl _ _ | exact Below.drew (Below.refl _ _) | assumption)
    (first
      | (go_at_call 6; (with_reducible refine (E1.out _ ?_).mono ?_); (first | assumption | exact Below.drew (Below.refl _ _) | exact Below.refl _ _); rintro e u1 ⟨rfl, hu1⟩)
      | (go_at_call 7; (with_reducible refine (E2.out _ ?_).mono ?_); (first | assumption | exact Below.drew (Below.refl _ _) | exact Below.refl _ _); rintro e u2 ⟨rfl, hu2⟩)
      | (go_at_call 8; (with_reducible refine (E3.out _ ?_).mono ?_); (first | assumption | exact Below.drew (Below.refl _ _) | exact Below.refl _ _); rintro e u3 ⟨rfl, hu3⟩)
      | (go_at_call 9; (with_reducible refine (E4.out _ ?_).mono ?_); (first | assumption | exact Below.drew (Below.refl _ _) | exact Below.refl _ _); rintro e u4 ⟨rfl, hu4⟩))
  have HB2 := Lib.hid (HB1.out.trans (hu4.mono HB1.out.size))
  have Xc2 := Lib.hid (Xc1.out.below hu4 Xc1.out.lt)
  have Xr2 := Lib.hid (Xr1.out.below hu4 Xr1.out.lt)
  clear E1 E2 E3 E4 XC XR kc0 kc1 kc2 kc3 kc4 kc5 kr0 kr1 kr2 kr3 kr4
  go_upto_region 7 with fail
  have XC := Lib.hid Xc2.out
  have XR := Lib.hid Xr2.out
  have kc0 : ∀ u, Below u4.heap.size u4 u → u.cell? ⟨w.heap.size, 0, none⟩ = some (.int .i64 c.sg) := fun u hu => (XC.out.below hu XC.out.lt).cell 0
  have kc1 : ∀ u, Below u4.heap.size u4 u → u.cell? ⟨w.heap.size, 1, none⟩ = some (.int .i64 c.st) := fun u hu => (XC.out.below hu XC.out.lt).cell 1
  have kc2 : ∀ u, Below u4.heap.size u4 u → u.cell? ⟨w.heap.size, 2, none⟩ = some (.bool c.un) := fun u hu => (XC.out.below hu XC.out.lt).cell 2
  have kc3 : ∀ u, Below u4.heap.size u4 u → u.cell? ⟨w.heap.size, 3, none⟩ = some (.int .i64 c.tr) := fun u hu => (XC.out.below hu XC.out.lt).cell 3
  have kc4 : ∀ u, Below u4.heap.size u4 u → u.cell? ⟨w.heap.size, 4, none⟩ = some (.string c.pt) := fun u hu => (XC.out.below hu XC.out.lt).cell 4
  have kc5 : ∀ u, Below u4.heap.size u4 u → u.cell? ⟨w.heap.size, 5, none⟩ = some (.string c.ky) := fun u hu => (XC.out.below hu XC.out.lt).cell 5
  have kr0 : ∀ u, Below u4.heap.size u4 u → u.cell? ⟨w.heap.size + 1, 0, none⟩ = some (.int .i64 r.sg) := fun u hu => (XR.out.below hu XR.out.lt).cell 0
  have kr1 : ∀ u, Below u4.heap.size u4 u → u.cell? ⟨w.heap.size + 1, 1, none⟩ = some (.int .i64 r.st) := fun u hu => (XR.out.below hu XR.out.lt).cell 1
  have kr2 : ∀ u, Below u4.heap.size u4 u → u.cell? ⟨w.heap.size + 1, 2, none⟩ = some (.bool r.un) := fun u hu => (XR.out.below hu XR.out.lt).cell 2
  have kr3 : ∀ u, Below u4.heap.size u4 u → u.cell? ⟨w.heap.size + 1, 3, none⟩ = some (.int .i64 r.tr) := fun u hu => (XR.out.below hu XR.out.lt).cell 3
  have kr4 : ∀ u, Below u4.heap.size u4 u → u.cell? ⟨w.heap.size + 1, 4, none⟩ = some (.bool r.gd) := fun u hu => (XR.out.below hu XR.out.lt).cell 4
  have E1 : Hid (∀ u, Below u4.heap.size u4 u → Calls Tryd.prog 10 #[.agg #[.int .i64 c.sg, .int .i64 c.st, .bool c.un, .int .i64 c.tr, .string c.pt, .string c.ky]] u fun e w' => e = .returned (.string (tx L1)) ∧ Below u4.heap.size u4 w') := Lib.hid fun u hu => (HCL.out u (HB2.out.trans (hu.mono HB2.out.size))).mono fun e w' ⟨h1, h2⟩ => ⟨h1, hu.trans (h2.mono hu.size)⟩
  have E2 : Hid (∀ u, Below u4.heap.size u4 u → Calls Tryd.prog 11 #[.agg #[.int .i64 r.sg, .int .i64 r.st, .bool r.un, .int .i64 r.tr, .bool r.gd]] u fun e w' => e = .returned (.string (tx L2)) ∧ Below u4.heap.size u4 w') := Lib.hid fun u hu => (HRL.out u (HB2.out.trans (hu.mono HB2.out.size))).mono fun e w' ⟨h1, h2⟩ => ⟨h1, hu.trans (h2.mono hu.size)⟩
  go_region_held3 (fun u => Below u4.heap.size u4 u) (first | exact Below.refl _ _ | exact Below.drew (Below.refl _ _) | assumption)
    (first
      | (go_at_call 10; (with_reducible refine (E1.out _ ?_).mono ?_); (first | assumption | exact Below.drew (Below.refl _ _) | exact Below.refl _ _); rintro e v1 ⟨rfl, hv1⟩)
      | (go_at_call 11; (with_reducible refine (E2.out _ ?_).mono ?_); (first | assumption | exact Below.drew (Below.refl _ _) | exact Below.refl _ _); rintro e v2 ⟨rfl, hv2⟩))
  have HB3 := Lib.hid (HB2.out.trans (hv2.mono HB2.out.size))
  have Xc3 := Lib.hid (Xc2.out.below hv2 Xc2.out.lt)
  have Xr3 := Lib.hid (Xr2.out.below hv2 Xr2.out.lt)
  have lc3 := Xc3.out.lt
  have lr3 := Xr3.out.lt
  have c3_0 := Xc3.out.cell 0
  have c3_1 := Xc3.out.cell 1
  have c3_2 := Xc3.out.cell 2
  have c3_3 := Xc3.out.cell 3
  have c3_4 := Xc3.out.cell 4
  have c3_5 := Xc3.out.cell 5
  clear hu1 hu2 hu3 hu4 hv1 hv2 E1 E2 XC XR HGC HGR HCL HRL HA HB0 HB1 HB2 Xc0 Xc1 Xc2 Xr0 Xr1 Xr2 kc0 kc1 kc2 kc3 kc4 kc5 kr0 kr1 kr2 kr3 kr4
  go_upto_if 53 with (go_at_call 7; (with_reducible refine (HRGC.out _ HB3.out).mono ?_); rintro e w4 ⟨rfl, hb⟩; have HB4 := Lib.hid (HB3.out.trans (hb.mono HB3.out.size)); have Xc4 := Lib.hid (Xc3.out.below hb Xc3.out.lt); have Xr4 := Lib.hid (Xr3.out.below hb Xr3.out.lt); have lc4 := Xc4.out.lt; have c4_0 := Xc4.out.cell 0; have c4_1 := Xc4.out.cell 1; have c4_2 := Xc4.out.cell 2; have c4_3 := Xc4.out.cell 3; have c4_4 := Xc4.out.cell 4; have c4_5 := Xc4.out.cell 5; have lr4 := Xr4.out.lt; have r4_0 := Xr4.out.cell 0; have r4_1 := Xr4.out.cell 1; have r4_2 := Xr4.out.cell 2; have r4_3 := Xr4.out.cell 3; have r4_4 := Xr4.out.cell 4; clear hb)
  go_cut [11, 12] from 53 to 73 (fun _ _ wx1 => Hid (Below w4.heap.size w4 wx1))
  case first =>
    cases gb
    · as_aux_lemma =>
      have eN := HF1.out rfl
      go_wp2_with fail
      go_meet
      exact Lib.hid (Below.refl _ _)
    · as_aux_lemma =>
      have HRd := Lib.hid (HT1.out rfl).1
      have HRl := Lib.hid (HT1.out rfl).2
      have hq := nq_cmd c
      have hgq := ng_cmd c c
      go_wp2_with (first
        | (go_at_call 12; (with_reducible refine (HRd.out _ HB4.out).mono ?_); rintro e w5f ⟨rfl, hb⟩; have HB5f := Lib.hid (HB4.out.trans (hb.mono HB4.out.size)); have Xc5f := Lib.hid (Xc4.out.below hb Xc4.out.lt); have Xr5f := Lib.hid (Xr4.out.below hb Xr4.out.lt); have lc5f := Xc5f.out.lt; have c5f_0 := Xc5f.out.cell 0; have c5f_1 := Xc5f.out.cell 1; have c5f_2 := Xc5f.out.cell 2; have c5f_3 := Xc5f.out.cell 3; have c5f_4 := Xc5f.out.cell 4; have c5f_5 := Xc5f.out.cell 5; have lr5f := Xr5f.out.lt; have r5f_0 := Xr5f.out.cell 0; have r5f_1 := Xr5f.out.cell 1; have r5f_2 := Xr5f.out.cell 2; have r5f_3 := Xr5f.out.cell 3; have r5f_4 := Xr5f.out.cell 4; have HM1 := Lib.hid hb; clear hb)
        | (go_at_call 13; (with_reducible refine (HRl.out _ (HB5f.out.alloc (HB5f.out).size (.cells #[.int .i64 c.sg, .int .i64 c.st, .bool c.un, .int .i64 c.tr, .string c.pt, .string c.ky] 23))).mono ?_); rintro e w6f ⟨rfl, hb⟩; have HB6f := Lib.hid ((HB5f.out.alloc (HB5f.out).size (.cells #[.int .i64 c.sg, .int .i64 c.st, .bool c.un, .int .i64 c.tr, .string c.pt, .string c.ky] 23)).trans (hb.mono (HB5f.out.alloc (HB5f.out).size (.cells #[.int .i64 c.sg, .int .i64 c.st, .bool c.un, .int .i64 c.tr, .string c.pt, .string c.ky] 23)).size)); have Xc6f := Lib.hid ((Xc5f.out.alloc (.cells #[.int .i64 c.sg, .int .i64 c.st, .bool c.un, .int .i64 c.tr, .string c.pt, .string c.ky] 23)).below hb (Xc5f.out.alloc (.cells #[.int .i64 c.sg, .int .i64 c.st, .bool c.un, .int .i64 c.tr, .string c.pt, .string c.ky] 23)).lt); have Xr6f := Lib.hid ((Xr5f.out.alloc (.cells #[.int .i64 c.sg, .int .i64 c.st, .bool c.un, .int .i64 c.tr, .string c.pt, .string c.ky] 23)).below hb (Xr5f.out.alloc (.cells #[.int .i64 c.sg, .int .i64 c.st, .bool c.un, .int .i64 c.tr, .string c.pt, .string c.ky] 23)).lt); have Xd6f := Lib.hid ((Box.new w5f 23 #[.int .i64 c.sg, .int .i64 c.st, .bool c.un, .int .i64 c.tr, .string c.pt, .string c.ky]).below hb (Box.new w5f 23 #[.int .i64 c.sg, .int .i64 c.st, .bool c.un, .int .i64 c.tr, .string c.pt, .string c.ky]).lt); have lc6f := Xc6f.out.lt; have c6f_0 := Xc6f.out.cell 0; have c6f_1 := Xc6f.out.cell 1; have c6f_2 := Xc6f.out.cell 2; have c6f_3 := Xc6f.out.cell 3; have c6f_4 := Xc6f.out.cell 4; have c6f_5 := Xc6f.out.cell 5; have lr6f := Xr6f.out.lt; have r6f_0 := Xr6f.out.cell 0; have r6f_1 := Xr6f.out.cell 1; have r6f_2 := Xr6f.out.cell 2; have r6f_3 := Xr6f.out.cell 3; have r6f_4 := Xr6f.out.cell 4; have ld6f := Xd6f.out.lt; have d6f_0 := Xd6f.out.cell 0; have d6f_1 := Xd6f.out.cell 1; have d6f_2 := Xd6f.out.cell 2; have d6f_3 := Xd6f.out.cell 3; have d6f_4 := Xd6f.out.cell 4; have d6f_5 := Xd6f.out.cell 5; have HM2 := Lib.hid hb; clear hb))
      go_meet
      exact Lib.hid ((HM1.out.alloc HM1.out.size _).trans (HM2.out.mono (HM1.out.alloc HM1.out.size _).size))
  case rest =>
    have HW := hcut
    have HB5 := Lib.hid (HB4.out.trans (HW.out.mono HB4.out.size))
    have Xc5 := Lib.hid (Xc4.out.below HW.out Xc4.out.lt)
    have lc5 := Xc5.out.lt
    have c5_0 := Xc5.out.cell 0
    have c5_1 := Xc5.out.cell 1
    have c5_2 := Xc5.out.cell 2
    have c5_3 := Xc5.out.cell 3
    have c5_4 := Xc5.out.cell 4
    have c5_5 := Xc5.out.cell 5
    have Xr5 := Lib.hid (Xr4.out.below HW.out Xr4.out.lt)
    have lr5 := Xr5.out.lt
    have r5_0 := Xr5.out.cell 0
    have r5_1 := Xr5.out.cell 1
    have r5_2 := Xr5.out.cell 2
    have r5_3 := Xr5.out.cell 3
    have r5_4 := Xr5.out.cell 4
    clear HW hcut HT1 HF1 HRGC
    go_upto_if 75 with (go_at_call 9; (with_reducible refine (HRGR.out _ HB5.out).mono ?_); rintro e w6 ⟨rfl, hb⟩; have HB6 := Lib.hid (HB5.out.trans (hb.mono HB5.out.size)); have Xc6 := Lib.hid (Xc5.out.below hb Xc5.out.lt); have Xr6 := Lib.hid (Xr5.out.below hb Xr5.out.lt); have lc6 := Xc6.out.lt; have c6_0 := Xc6.out.cell 0; have c6_1 := Xc6.out.cell 1; have c6_2 := Xc6.out.cell 2; have c6_3 := Xc6.out.cell 3; have c6_4 := Xc6.out.cell 4; have c6_5 := Xc6.out.cell 5; have lr6 := Xr6.out.lt; have r6_0 := Xr6.out.cell 0; have r6_1 := Xr6.out.cell 1; have r6_2 := Xr6.out.cell 2; have r6_3 := Xr6.out.cell 3; have r6_4 := Xr6.out.cell 4; clear hb)
    go_cut [13, 14] from 75 to 95 (fun _ _ wx2 => Hid (Below w6.heap.size w6 wx2))
    case first =>
      cases gr
      · as_aux_lemma =>
        have eN := HF2.out rfl
        go_wp2_with fail
        go_meet
        exact Lib.hid (Below.refl _ _)
      · as_aux_lemma =>
        have HRd := Lib.hid (HT2.out rfl).1
        have HRl := Lib.hid (HT2.out rfl).2
        have hq := nq_rep r
        have hgq := ng_rep r r
        go_wp2_with (first
          | (go_at_call 14; (with_reducible refine (HRd.out _ HB6.out).mono ?_); rintro e w7f ⟨rfl, hb⟩; have HB7f := Lib.hid (HB6.out.trans (hb.mono HB6.out.size)); have Xc7f := Lib.hid (Xc6.out.below hb Xc6.out.lt); have Xr7f := Lib.hid (Xr6.out.below hb Xr6.out.lt); have lc7f := Xc7f.out.lt; have c7f_0 := Xc7f.out.cell 0; have c7f_1 := Xc7f.out.cell 1; have c7f_2 := Xc7f.out.cell 2; have c7f_3 := Xc7f.out.cell 3; have c7f_4 := Xc7f.out.cell 4; have c7f_5 := Xc7f.out.cell 5; have lr7f := Xr7f.out.lt; have r7f_0 := Xr7f.out.cell 0; have r7f_1 := Xr7f.out.cell 1; have r7f_2 := Xr7f.out.cell 2; have r7f_3 := Xr7f.out.cell 3; have r7f_4 := Xr7f.out.cell 4; have HM1 := Lib.hid hb; clear hb)
          | (go_at_call 15; (with_reducible refine (HRl.out _ (HB7f.out.alloc (HB7f.out).size (.cells #[.int .i64 r.sg, .int .i64 r.st, .bool r.un, .int .i64 r.tr, .bool r.gd] 25))).mono ?_); rintro e w8f ⟨rfl, hb⟩; have HB8f := Lib.hid ((HB7f.out.alloc (HB7f.out).size (.cells #[.int .i64 r.sg, .int .i64 r.st, .bool r.un, .int .i64 r.tr, .bool r.gd] 25)).trans (hb.mono (HB7f.out.alloc (HB7f.out).size (.cells #[.int .i64 r.sg, .int .i64 r.st, .bool r.un, .int .i64 r.tr, .bool r.gd] 25)).size)); have Xc8f := Lib.hid ((Xc7f.out.alloc (.cells #[.int .i64 r.sg, .int .i64 r.st, .bool r.un, .int .i64 r.tr, .bool r.gd] 25)).below hb (Xc7f.out.alloc (.cells #[.int .i64 r.sg, .int .i64 r.st, .bool r.un, .int .i64 r.tr, .bool r.gd] 25)).lt); have Xr8f := Lib.hid ((Xr7f.out.alloc (.cells #[.int .i64 r.sg, .int .i64 r.st, .bool r.un, .int .i64 r.tr, .bool r.gd] 25)).below hb (Xr7f.out.alloc (.cells #[.int .i64 r.sg, .int .i64 r.st, .bool r.un, .int .i64 r.tr, .bool r.gd] 25)).lt); have Xd8f := Lib.hid ((Box.new w7f 25 #[.int .i64 r.sg, .int .i64 r.st, .bool r.un, .int .i64 r.tr, .bool r.gd]).below hb (Box.new w7f 25 #[.int .i64 r.sg, .int .i64 r.st, .bool r.un, .int .i64 r.tr, .bool r.gd]).lt); have lc8f := Xc8f.out.lt; have c8f_0 := Xc8f.out.cell 0; have c8f_1 := Xc8f.out.cell 1; have c8f_2 := Xc8f.out.cell 2; have c8f_3 := Xc8f.out.cell 3; have c8f_4 := Xc8f.out.cell 4; have c8f_5 := Xc8f.out.cell 5; have lr8f := Xr8f.out.lt; have r8f_0 := Xr8f.out.cell 0; have r8f_1 := Xr8f.out.cell 1; have r8f_2 := Xr8f.out.cell 2; have r8f_3 := Xr8f.out.cell 3; have r8f_4 := Xr8f.out.cell 4; have ld8f := Xd8f.out.lt; have d8f_0 := Xd8f.out.cell 0; have d8f_1 := Xd8f.out.cell 1; have d8f_2 := Xd8f.out.cell 2; have d8f_3 := Xd8f.out.cell 3; have d8f_4 := Xd8f.out.cell 4; have HM2 := Lib.hid hb; clear hb))
        go_meet
        exact Lib.hid ((HM1.out.alloc HM1.out.size _).trans (HM2.out.mono (HM1.out.alloc HM1.out.size _).size))
    case rest =>
      have HW := hcut
      have HB7 := Lib.hid (HB6.out.trans (HW.out.mono HB6.out.size))
      have Xc7 := Lib.hid (Xc6.out.below HW.out Xc6.out.lt)
      have lc7 := Xc7.out.lt
      have c7_0 := Xc7.out.cell 0
      have c7_1 := Xc7.out.cell 1
      have c7_2 := Xc7.out.cell 2
      have c7_3 := Xc7.out.cell 3
      have c7_4 := Xc7.out.cell 4
      have c7_5 := Xc7.out.cell 5
      have Xr7 := Lib.hid (Xr6.out.below HW.out Xr6.out.lt)
      have lr7 := Xr7.out.lt
      have r7_0 := Xr7.out.cell 0
      have r7_1 := Xr7.out.cell 1
      have r7_2 := Xr7.out.cell 2
      have r7_3 := Xr7.out.cell 3
      have r7_4 := Xr7.out.cell 4
      clear HW hcut HT2 HF2 HRGR
      go_upto_region 21 with (go_at_call 12; (with_reducible refine (HS1.out _ HB7.out).mono ?_); rintro e w8 ⟨d3, ok3, rfl, hI, hb⟩; have HB8 := Lib.hid (HB7.out.trans (hb.mono HB7.out.size)); have Xc8 := Lib.hid (Xc7.out.below hb Xc7.out.lt); have Xr8 := Lib.hid (Xr7.out.below hb Xr7.out.lt); have lc8 := Xc8.out.lt; have c8_0 := Xc8.out.cell 0; have c8_1 := Xc8.out.cell 1; have c8_2 := Xc8.out.cell 2; have c8_3 := Xc8.out.cell 3; have c8_4 := Xc8.out.cell 4; have c8_5 := Xc8.out.cell 5; have lr8 := Xr8.out.lt; have r8_0 := Xr8.out.cell 0; have r8_1 := Xr8.out.cell 1; have r8_2 := Xr8.out.cell 2; have r8_3 := Xr8.out.cell 3; have r8_4 := Xr8.out.cell 4; have HI3 := Lib.hid hI; clear hI; clear hb)
      have HBn3 := Lib.hid (HB8.out.alloc (HB8.out).size (.cells #[.int .i64 d3.sg, .int .i64 d3.st, .bool d3.un, .int .i64 d3.tr, .string d3.pt, .string d3.ky] 23))
      have Yc3 := Lib.hid (Xc8.out.alloc (.cells #[.int .i64 d3.sg, .int .i64 d3.st, .bool d3.un, .int .i64 d3.tr, .string d3.pt, .string d3.ky] 23))
      have Yr3 := Lib.hid (Xr8.out.alloc (.cells #[.int .i64 d3.sg, .int .i64 d3.st, .bool d3.un, .int .i64 d3.tr, .string d3.pt, .string d3.ky] 23))
      have Yd3 := Lib.hid (Box.new w8 23 #[.int .i64 d3.sg, .int .i64 d3.st, .bool d3.un, .int .i64 d3.tr, .string d3.pt, .string d3.ky])
      generalize (w8.alloc (.cells #[.int .i64 d3.sg, .int .i64 d3.st, .bool d3.un, .int .i64 d3.tr, .string d3.pt, .string d3.ky] 23)) = V3 at *
      have ld3 := Yd3.out.lt
      have d3_0 := Yd3.out.cell 0
      have d3_1 := Yd3.out.cell 1
      have d3_2 := Yd3.out.cell 2
      have d3_3 := Yd3.out.cell 3
      have d3_4 := Yd3.out.cell 4
      have d3_5 := Yd3.out.cell 5
      go_cut [121] from 101 to 121 (fun x wx3 => x = .bool false ∧ Hid (Below V3.heap.size V3 wx3))
      case first =>
        rcases HI3.out with ⟨rfl, hgd, hld⟩ | ⟨rfl, rfl, _⟩
        · as_aux_lemma =>
          have HQ1 := Lib.hid (fun u (_ : Below w.heap.size w u) => (cmd_of HLen.out hgd hld u).1)
          have HQ2 := Lib.hid (fun u (_ : Below w.heap.size w u) => (cmd_of HLen.out hgd hld u).2)
          clear hgd hld HI3
          go_wp2_with (first
            | (go_at_call 7; (with_reducible refine (HQ1.out _ HBn3.out).mono ?_); rintro e w9f ⟨rfl, hb⟩; have HB9f := Lib.hid (HBn3.out.trans (hb.mono HBn3.out.size)); have Xc9f := Lib.hid (Yc3.out.below hb Yc3.out.lt); have Xr9f := Lib.hid (Yr3.out.below hb Yr3.out.lt); have Xd9f := Lib.hid (Yd3.out.below hb Yd3.out.lt); have ld9f := Xd9f.out.lt; have d9f_0 := Xd9f.out.cell 0; have d9f_1 := Xd9f.out.cell 1; have d9f_2 := Xd9f.out.cell 2; have d9f_3 := Xd9f.out.cell 3; have d9f_4 := Xd9f.out.cell 4; have d9f_5 := Xd9f.out.cell 5; have HM1 := Lib.hid hb; clear hb)
            | (go_at_call 13; (with_reducible refine (HQ2.out _ HB9f.out).mono ?_); rintro e w10f ⟨rfl, hb⟩; have HB10f := Lib.hid (HB9f.out.trans (hb.mono HB9f.out.size)); have Xc10f := Lib.hid (Xc9f.out.below hb Xc9f.out.lt); have Xr10f := Lib.hid (Xr9f.out.below hb Xr9f.out.lt); have Xd10f := Lib.hid (Xd9f.out.below hb Xd9f.out.lt); have ld10f := Xd10f.out.lt; have d10f_0 := Xd10f.out.cell 0; have d10f_1 := Xd10f.out.cell 1; have d10f_2 := Xd10f.out.cell 2; have d10f_3 := Xd10f.out.cell 3; have d10f_4 := Xd10f.out.cell 4; have d10f_5 := Xd10f.out.cell 5; have HM2 := Lib.hid hb; clear hb))
          go_meet
          exact ⟨rfl, Lib.hid (HM1.out.trans (HM2.out.mono HM1.out.size))⟩
        · as_aux_lemma =>
          have hq := nq_cmd zC
          have hgq := ng_cmd zC zC
          unfold zC at *
          clear HI3
          go_wp2_with fail
          go_meet
          exact ⟨rfl, Lib.hid (Below.refl _ _)⟩
      case rest =>
        obtain ⟨rfl, HW⟩ := hcut
        have HB9 := Lib.hid (HBn3.out.trans (HW.out.mono HBn3.out.size))
        have Xc9 := Lib.hid (Yc3.out.below HW.out Yc3.out.lt)
        have lc9 := Xc9.out.lt
        have c9_0 := Xc9.out.cell 0
        have c9_1 := Xc9.out.cell 1
        have c9_2 := Xc9.out.cell 2
        have c9_3 := Xc9.out.cell 3
        have c9_4 := Xc9.out.cell 4
        have c9_5 := Xc9.out.cell 5
        have Xr9 := Lib.hid (Yr3.out.below HW.out Yr3.out.lt)
        have lr9 := Xr9.out.lt
        have r9_0 := Xr9.out.cell 0
        have r9_1 := Xr9.out.cell 1
        have r9_2 := Xr9.out.cell 2
        have r9_3 := Xr9.out.cell 3
        have r9_4 := Xr9.out.cell 4
        clear HW HI3 HS1
        go_upto_region 24 with (go_at_call 14; (with_reducible refine (HS2.out _ HB9.out).mono ?_); rintro e w10 ⟨d4, ok4, rfl, hI, hb⟩; have HB10 := Lib.hid (HB9.out.trans (hb.mono HB9.out.size)); have Xc10 := Lib.hid (Xc9.out.below hb Xc9.out.lt); have Xr10 := Lib.hid (Xr9.out.below hb Xr9.out.lt); have lc10 := Xc10.out.lt; have c10_0 := Xc10.out.cell 0; have c10_1 := Xc10.out.cell 1; have c10_2 := Xc10.out.cell 2; have c10_3 := Xc10.out.cell 3; have c10_4 := Xc10.out.cell 4; have c10_5 := Xc10.out.cell 5; have lr10 := Xr10.out.lt; have r10_0 := Xr10.out.cell 0; have r10_1 := Xr10.out.cell 1; have r10_2 := Xr10.out.cell 2; have r10_3 := Xr10.out.cell 3; have r10_4 := Xr10.out.cell 4; have HI4 := Lib.hid hI; clear hI; clear hb)
        have HBn4 := Lib.hid (HB10.out.alloc (HB10.out).size (.cells #[.int .i64 d4.sg, .int .i64 d4.st, .bool d4.un, .int .i64 d4.tr, .bool d4.gd] 25))
        have Yc4 := Lib.hid (Xc10.out.alloc (.cells #[.int .i64 d4.sg, .int .i64 d4.st, .bool d4.un, .int .i64 d4.tr, .bool d4.gd] 25))
        have Yr4 := Lib.hid (Xr10.out.alloc (.cells #[.int .i64 d4.sg, .int .i64 d4.st, .bool d4.un, .int .i64 d4.tr, .bool d4.gd] 25))
        have Yd4 := Lib.hid (Box.new w10 25 #[.int .i64 d4.sg, .int .i64 d4.st, .bool d4.un, .int .i64 d4.tr, .bool d4.gd])
        generalize (w10.alloc (.cells #[.int .i64 d4.sg, .int .i64 d4.st, .bool d4.un, .int .i64 d4.tr, .bool d4.gd] 25)) = V4 at *
        have ld4 := Yd4.out.lt
        have d4_0 := Yd4.out.cell 0
        have d4_1 := Yd4.out.cell 1
        have d4_2 := Yd4.out.cell 2
        have d4_3 := Yd4.out.cell 3
        have d4_4 := Yd4.out.cell 4
        go_cut [147] from 127 to 147 (fun x wx4 => x = .bool false ∧ Hid (Below V4.heap.size V4 wx4))
        case first =>
          rcases HI4.out with ⟨rfl, hgd, hld⟩ | ⟨rfl, rfl, _⟩
          · as_aux_lemma =>
            have HQ1 := Lib.hid (fun u (_ : Below w.heap.size w u) => (rep_of hgd hld u).1)
            have HQ2 := Lib.hid (fun u (_ : Below w.heap.size w u) => (rep_of hgd hld u).2)
            clear hgd hld HI4
            go_wp2_with (first
              | (go_at_call 9; (with_reducible refine (HQ1.out _ HBn4.out).mono ?_); rintro e w11f ⟨rfl, hb⟩; have HB11f := Lib.hid (HBn4.out.trans (hb.mono HBn4.out.size)); have Xc11f := Lib.hid (Yc4.out.below hb Yc4.out.lt); have Xr11f := Lib.hid (Yr4.out.below hb Yr4.out.lt); have Xd11f := Lib.hid (Yd4.out.below hb Yd4.out.lt); have ld11f := Xd11f.out.lt; have d11f_0 := Xd11f.out.cell 0; have d11f_1 := Xd11f.out.cell 1; have d11f_2 := Xd11f.out.cell 2; have d11f_3 := Xd11f.out.cell 3; have d11f_4 := Xd11f.out.cell 4; have HM1 := Lib.hid hb; clear hb)
              | (go_at_call 15; (with_reducible refine (HQ2.out _ HB11f.out).mono ?_); rintro e w12f ⟨rfl, hb⟩; have HB12f := Lib.hid (HB11f.out.trans (hb.mono HB11f.out.size)); have Xc12f := Lib.hid (Xc11f.out.below hb Xc11f.out.lt); have Xr12f := Lib.hid (Xr11f.out.below hb Xr11f.out.lt); have Xd12f := Lib.hid (Xd11f.out.below hb Xd11f.out.lt); have ld12f := Xd12f.out.lt; have d12f_0 := Xd12f.out.cell 0; have d12f_1 := Xd12f.out.cell 1; have d12f_2 := Xd12f.out.cell 2; have d12f_3 := Xd12f.out.cell 3; have d12f_4 := Xd12f.out.cell 4; have HM2 := Lib.hid hb; clear hb))
            go_meet
            exact ⟨rfl, Lib.hid (HM1.out.trans (HM2.out.mono HM1.out.size))⟩
          · as_aux_lemma =>
            have hq := nq_rep zR
            have hgq := ng_rep zR zR
            unfold zR at *
            clear HI4
            go_wp2_with fail
            go_meet
            exact ⟨rfl, Lib.hid (Below.refl _ _)⟩
        case rest =>
          obtain ⟨rfl, HW⟩ := hcut
          have HB11 := Lib.hid (HBn4.out.trans (HW.out.mono HBn4.out.size))
          have Xc11 := Lib.hid (Yc4.out.below HW.out Yc4.out.lt)
          have lc11 := Xc11.out.lt
          have c11_0 := Xc11.out.cell 0
          have c11_1 := Xc11.out.cell 1
          have c11_2 := Xc11.out.cell 2
          have c11_3 := Xc11.out.cell 3
          have c11_4 := Xc11.out.cell 4
          have c11_5 := Xc11.out.cell 5
          have Xr11 := Lib.hid (Yr4.out.below HW.out Yr4.out.lt)
          have lr11 := Xr11.out.lt
          have r11_0 := Xr11.out.cell 0
          have r11_1 := Xr11.out.cell 1
          have r11_2 := Xr11.out.cell 2
          have r11_3 := Xr11.out.cell 3
          have r11_4 := Xr11.out.cell 4
          clear HW HI4 HS2
          go_upto_region 26 with fail
          have XC := Lib.hid Xc11.out
          have kc0 : ∀ u, Below wc.heap.size wc u → u.cell? ⟨w.heap.size, 0, none⟩ = some (.int .i64 c.sg) := fun u hu => (XC.out.below hu XC.out.lt).cell 0
          have kc1 : ∀ u, Below wc.heap.size wc u → u.cell? ⟨w.heap.size, 1, none⟩ = some (.int .i64 c.st) := fun u hu => (XC.out.below hu XC.out.lt).cell 1
          have kc2 : ∀ u, Below wc.heap.size wc u → u.cell? ⟨w.heap.size, 2, none⟩ = some (.bool c.un) := fun u hu => (XC.out.below hu XC.out.lt).cell 2
          have kc3 : ∀ u, Below wc.heap.size wc u → u.cell? ⟨w.heap.size, 3, none⟩ = some (.int .i64 c.tr) := fun u hu => (XC.out.below hu XC.out.lt).cell 3
          have kc4 : ∀ u, Below wc.heap.size wc u → u.cell? ⟨w.heap.size, 4, none⟩ = some (.string c.pt) := fun u hu => (XC.out.below hu XC.out.lt).cell 4
          have kc5 : ∀ u, Below wc.heap.size wc u → u.cell? ⟨w.heap.size, 5, none⟩ = some (.string c.ky) := fun u hu => (XC.out.below hu XC.out.lt).cell 5
          have E1 : Hid (∀ u, Below wc.heap.size wc u → Calls Tryd.prog 16 #[.agg #[.int .i64 c.sg, .int .i64 c.st, .bool c.un, .int .i64 c.tr, .string c.pt, .string c.ky], .bool good] u fun e w' => e = .returned (.agg #[.int .i64 c.sg, .int .i64 c.st, .bool c.un, .int .i64 c.tr, .bool good]) ∧ Below wc.heap.size wc w') := Lib.hid fun u hu => (HAn.out u (HB11.out.trans (hu.mono HB11.out.size))).mono fun e w' ⟨h1, h2⟩ => ⟨h1, hu.trans (h2.mono hu.size)⟩
          have hq := qq_rep ⟨c.sg, c.st, c.un, c.tr, good⟩
          have hgq := qg_rep ⟨c.sg, c.st, c.un, c.tr, good⟩ ⟨c.sg, c.st, c.un, c.tr, good⟩
          have hbd := build_rep
          have HBl := Lib.hid HB11.out
          clear XC c11_0 c11_1 c11_2 c11_3 c11_4 c11_5 r11_0 r11_1 r11_2 r11_3 r11_4
          go_region_held3 (fun u => Below wc.heap.size wc u) (first | exact Below.refl _ _ | exact Below.drew (Below.refl _ _) | assumption)
            ((go_at_call 16; (with_reducible refine (E1.out _ ?_).mono ?_); (first | assumption | exact Below.drew (Below.refl _ _) | exact Below.refl _ _); rintro e z1 ⟨rfl, hz1⟩))
          all_goals
            go_wp2_with fail
            go_ret
            exact ⟨rfl, HBl.out.trans (hz1.mono HBl.out.size)⟩
theorem walkS (c : Cm) (r : Rp) (s : ByteArray) (good : Bool) (w : World) (hG : Gl w) :
    Calls Tryd.prog 3 #[.agg #[.int .i64 c.sg, .int .i64 c.st, .bool c.un, .int .i64 c.tr, .string c.pt, .string c.ky], .agg #[.int .i64 r.sg, .int .i64 r.st, .bool r.un, .int .i64 r.tr, .bool r.gd], .string s, .bool good] w fun e w' => e = .returned (.bool true) ∧ Below w.heap.size w w' := by
  have h := walk c r s.data.toList good w hG
  rw [tx_of] at h
  exact h

set_option maxRecDepth 100000 in
theorem lifted (os : Os) (started : os.Started) (H : Type) (enc : TypeId × Value → H) :
    ReturnsInHanded {} Tryd.checked os 3 .any (fun w args => (Rows.wireLinesSpec.pre enc Tryd.prog Tryd.f3 Rows.wireLinesRow.domain false w args ∧ laidMetH Tryd.prog Rows.wireLinesRow.laid w) ∧ sizedMet enc Tryd.prog Tryd.f3 (OpenSpec.ofChange Rows.wireLinesSpec) false w args)
      (Rows.wireLinesSpec.post enc Tryd.prog Tryd.f3 false true false false) := by
  refine returns_both (C := Tryd.checked) (X := fun w _ => laidMetH Tryd.prog Rows.wireLinesRow.laid w) (fun _ _ _ hh h => h.of_heap hh) own started (by kernel_rfl) Tryd.func3
    (ChangeSpec.witness_shaped (enc := enc) (C := Tryd.checked) (os := os) (X := fun w _ => laidMetH Tryd.prog Rows.wireLinesRow.laid w) false (World.laidAll Tryd.prog os Rows.wireLinesRow.laid) #[.agg #[.int .i64 0, .int .i64 0, .bool false, .int .i64 0, .string ⟨#[]⟩, .string ⟨#[]⟩], .agg #[.int .i64 0, .int .i64 0, .bool false, .int .i64 0, .bool false], .string ⟨#[]⟩, .bool false] 8 (World.laidAll_os _ _ _)
      (World.shaped_of_ZipB (by kernel_rfl) (by kernel_rfl)) (by kernel_rfl) (by kernel_rfl) (by kernel_rfl)
      (by rw [MakeChecks.laidMetH_plain _ _ _ (by kernel_rfl)]; exact laidMet_laidAll _ (by kernel_rfl) (by kernel_rfl))) ?_
  intro W base args ds gs before hval0 hW _ hlaid hsh
  have hGl : Gl W := gl_of hlaid hsh
  have hval : ∀ (j : Nat) t v, Tryd.f3.params[j]? = some t → args[j]? = some v → Value.okWide Tryd.prog W .any base t v := hval0
  have hW' := hW
  obtain ⟨p, q, hA0, hV, rfl, _, _⟩ := hW
  have hA : DataW.TrodAll enc Tryd.prog W 0 (fun _ => true) true Tryd.f3.params.toList args.toList ds p := hA0
  rw [Tryd.params3] at hA hval
  obtain ⟨rfl, rfl⟩ := trodVars_none hV
  obtain ⟨v0, vs0, d0, ds0, p0, q0, hargs, rfl, rfl, h0, r0⟩ := trodAll_cons hA
  obtain ⟨v1, vs1, d1, ds1, p1, q1, rfl, rfl, rfl, h1, r1⟩ := trodAll_cons r0
  obtain ⟨v2, vs2, d2, ds2, p2, q2, rfl, rfl, rfl, h2, r2⟩ := trodAll_cons r1
  obtain ⟨v3, vs3, d3, ds3, p3, q3, rfl, rfl, rfl, h3, r3⟩ := trodAll_cons r2
  obtain ⟨rfl, rfl, rfl⟩ := trodAll_nil r3
  obtain rfl : args = #[v0, v1, v2, v3] := by cases args; simp_all
  obtain ⟨c0, y0⟩ := arg_cm (hval 0 23 v0 rfl rfl) h0
  subst y0
  obtain ⟨c1, y1⟩ := arg_rp (hval 1 25 v1 rfl rfl) h1
  subst y1
  obtain ⟨a2, rfl, rfl, rfl, w2⟩ := open_string Tryd.underlying9 (hval 2 9 v2 rfl rfl) h2
  obtain ⟨a3, rfl, rfl, rfl⟩ := open_bool Tryd.underlying4 (hval 3 4 v3 rfl rfl) h3
  clear hA0 hval0
  simp only [List.append_nil] at hW'
  have hlt0 : ∀ x ∈ p0, x.block < W.heap.size := fun x hx => by simpa using hW'.lt x (by simp [hx])
  have hlt1 : ∀ x ∈ p1, x.block < W.heap.size := fun x hx => by simpa using hW'.lt x (by simp [hx])
  refine (walkS c0 c1 a2 a3 W hGl).mono fun e W' ⟨he, bel⟩ => ?_
  subst he
  exact ⟨_, rfl, _, _, _, [], _, [], hW', trodAll_mk1 (shut_bool Tryd.underlying4 _), (trodAll_cons_mk (Below.trod laidOut (by kernel_rfl) (of_decide_eq_true (by kernel_rfl)) h0 bel hlt0) (trodAll_cons_mk (Below.trod laidOut (by kernel_rfl) (of_decide_eq_true (by kernel_rfl)) h1 bel hlt1) (trodAll_cons_mk (shut_string Tryd.underlying9 w2) (trodAll_cons_mk (shut_bool Tryd.underlying4 _) trodAll_mk0)))), rfl, bel.frame _, fun h => by cases h⟩

theorem over : Rows.wireLinesRow.holds Tryd.pinned (OpenSpec.ofChange Rows.wireLinesSpec) :=
  OpenClaim.holds_of_wide 3 Tryd.f3 rfl rfl rfl rfl rfl rfl rfl ⟨rfl, rfl, rfl, rfl, rfl⟩ rfl rfl rfl rfl rfl (by kernel_rfl) Tryd.func3 (by kernel_rfl)
    (of_decide_eq_true (by kernel_rfl)) (by unfold Func.isWrapper; first | (rw [if_pos (by decide +kernel)]; kernel_rfl) | (rw [if_neg (by decide +kernel)]; exact ⟨rfl, rfl⟩))
    (fun os started H enc _ => lifted os started H enc)

/-- the statement -/
theorem proved : Rows.WireLinesCardSaid :=
  Claim7.holds_tied_plain_at .later [] [.data, .data, .data, .data, .sentinel, .sentinel, .pinned] true Rows.wireLinesCard.stood.harness true over (fun _ h => by cases h) (by kernel_rfl) (fun _ h => by cases h) wireLines_row_tie rfl ⟨rfl, rfl⟩ (by kernel_rfl) rfl
    (fun f fn hf hfn => by
      obtain rfl : f = 3 := Option.some.inj ((show Tryd.prog.funcNamed Rows.wireLinesRow.func = some 3 by kernel_rfl).symm.trans hf) |>.symm
      obtain rfl : fn = Tryd.f3 := (Option.some.inj (Tryd.func3.symm.trans hfn)).symm
      exact ⟨by kernel_rfl, fun j t ht => by
        rw [Tryd.params3] at ht
        have hm : t ∈ [23, 25, 9, 4] := by simpa using Array.mem_of_getElem? ht
        have hall : ([23, 25, 9, 4].all fun u => !Tryd.prog.wantsStandIn u) = true := by kernel_rfl
        exact (show Tryd.prog.wantsStandIn t = false by simpa using List.all_eq_true.1 hall t hm)⟩)
    (by kernel_rfl)
#print axioms proved
end Go.Proofs.YtllpjfbcjcnpcaaDoor.wireLines
