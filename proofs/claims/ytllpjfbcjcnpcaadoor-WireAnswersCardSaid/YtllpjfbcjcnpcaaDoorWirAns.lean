/-
  WireAnswers: the answer to a right command is a right reply of its numbers; a command's line is no reply's, and the other way about.
  Conditions: none but the row's.
-/
import Derived.Test.YtllpjfbcjcnpcaaDoorWirLaw
namespace Go.Proofs.YtllpjfbcjcnpcaaDoor.wireAnswers
open Go.ChangeShapes Go.WideShapes Go.ChangeAt Go.RowKit
open Go.Proofs.YtllpjfbcjcnpcaaDoor.El
open Go.Proofs.YtllpjfbcjcnpcaaDoor.Df (bytes_inj)
open Go.Proofs.YtllpjfbcjcnpcaaDoor.Wi

theorem line_small {c : Cm} (h : Wi.Good c) (hp : c.pt.size ≤ 300) (hk : c.ky.size ≤ 300) : (lineL c).length ≤ 1000 := by
  have h1 := dg_size (n := c.sg) (by have := h.1.2; omega)
  have h2 := dg_size (n := c.st) (by have := h.2.1.2; omega)
  have h3 := dg_size (n := c.tr) (by have := h.2.2.1.2; omega)
  have h4 := way_len c.un
  have h5 := len_is c.pt
  have h6 := len_is c.ky
  unfold lineL
  simp only [List.length_append, List.length_cons, List.length_nil]
  omega
theorem line_smallR {r : Rp} (h : GoodR r) : (lineR r).length ≤ 1000 := by
  have h1 := dg_size (n := r.sg) (by have := h.1.2; omega)
  have h2 := dg_size (n := r.st) (by have := h.2.1.2; omega)
  have h3 := dg_size (n := r.tr) (by have := h.2.2.2; omega)
  have h4 := way_len r.un
  have h5 := how_len r.gd
  unfold lineR
  simp only [List.length_append, List.length_cons, List.length_nil]
  omega
set_option maxRecDepth 100000 in
set_option maxHeartbeats 8000000 in
theorem walk (c : Cm) (good : Bool) (w : World) (hG : Gl w) :
    Calls Tryd.prog 4 #[.agg #[.int .i64 c.sg, .int .i64 c.st, .bool c.un, .int .i64 c.tr, .string c.pt, .string c.ky], .bool good] w fun e w' => e = .returned (.bool true) ∧ Below w.heap.size w w' := by
  have HA := Lib.hid (fun u (hu : Below w.heap.size w u) => awake_any u (hG.on hu))
  have HB0 := Lib.hid ((Below.refl w.heap.size w).alloc (Nat.le_refl _) (.cells #[.int .i64 c.sg, .int .i64 c.st, .bool c.un, .int .i64 c.tr, .string c.pt, .string c.ky] 23))
  have Xc0 := Lib.hid (Box.new w 23 #[.int .i64 c.sg, .int .i64 c.st, .bool c.un, .int .i64 c.tr, .string c.pt, .string c.ky])
  by_cases h1 : 300 < c.pt.size
  · clear hG
    go_enter Tryd.func4, Tryd.ntmps4
    go_wp2_with (go_at_call 5; (with_reducible refine (HA.out _ HB0.out).mono ?_); rintro e w1 ⟨rfl, hb⟩; have HB1 := Lib.hid (HB0.out.trans (hb.mono HB0.out.size)); have Xc1 := Lib.hid (Xc0.out.below hb Xc0.out.lt); have lc1 := Xc1.out.lt; have c1_0 := Xc1.out.cell 0; have c1_1 := Xc1.out.cell 1; have c1_2 := Xc1.out.cell 2; have c1_3 := Xc1.out.cell 3; have c1_4 := Xc1.out.cell 4; have c1_5 := Xc1.out.cell 5; clear hb)
    go_ret
    exact ⟨rfl, HB1.out⟩
  by_cases h2 : 300 < c.ky.size
  · clear hG
    go_enter Tryd.func4, Tryd.ntmps4
    go_wp2_with (go_at_call 5; (with_reducible refine (HA.out _ HB0.out).mono ?_); rintro e w1 ⟨rfl, hb⟩; have HB1 := Lib.hid (HB0.out.trans (hb.mono HB0.out.size)); have Xc1 := Lib.hid (Xc0.out.below hb Xc0.out.lt); have lc1 := Xc1.out.lt; have c1_0 := Xc1.out.cell 0; have c1_1 := Xc1.out.cell 1; have c1_2 := Xc1.out.cell 2; have c1_3 := Xc1.out.cell 3; have c1_4 := Xc1.out.cell 4; have c1_5 := Xc1.out.cell 5; clear hb)
    go_ret
    exact ⟨rfl, HB1.out⟩
  have HC := Lib.hid (fun u (hu : Below w.heap.size w u) => rcommand_any c u (by omega) (by omega))
  cases hgb : Wi.goodB c
  · rw [hgb] at HC
    clear hG hgb
    go_enter Tryd.func4, Tryd.ntmps4
    go_wp2_with (first
      | (go_at_call 5; (with_reducible refine (HA.out _ HB0.out).mono ?_); rintro e w1 ⟨rfl, hb⟩; have HB1 := Lib.hid (HB0.out.trans (hb.mono HB0.out.size)); have Xc1 := Lib.hid (Xc0.out.below hb Xc0.out.lt); have lc1 := Xc1.out.lt; have c1_0 := Xc1.out.cell 0; have c1_1 := Xc1.out.cell 1; have c1_2 := Xc1.out.cell 2; have c1_3 := Xc1.out.cell 3; have c1_4 := Xc1.out.cell 4; have c1_5 := Xc1.out.cell 5; clear hb)
      | (go_at_call 7; (with_reducible refine (HC.out _ HB1.out).mono ?_); rintro e w2 ⟨rfl, hb⟩; have HB2 := Lib.hid (HB1.out.trans (hb.mono HB1.out.size)); have Xc2 := Lib.hid (Xc1.out.below hb Xc1.out.lt); have lc2 := Xc2.out.lt; have c2_0 := Xc2.out.cell 0; have c2_1 := Xc2.out.cell 1; have c2_2 := Xc2.out.cell 2; have c2_3 := Xc2.out.cell 3; have c2_4 := Xc2.out.cell 4; have c2_5 := Xc2.out.cell 5; clear hb))
    go_ret
    exact ⟨rfl, HB2.out⟩
  · rw [hgb] at HC
    have hg : Wi.Good c := Wi.good_yes hgb
    obtain ⟨r, hr⟩ : ∃ r : Rp, r = ⟨c.sg, c.st, c.un, c.tr, good⟩ := ⟨_, rfl⟩
    have hgr : GoodR r := by rw [hr]; exact ⟨hg.1, hg.2.1, hg.2.2.1⟩
    have hlr := line_smallR hgr
    have hlc := line_small hg (by omega) (by omega)
    have e1 : lnC c = lineL c := by unfold lnC; rw [hgb]; rfl
    have e2 : lnR r = lineR r := by unfold lnR; rw [show goodR r = true from decide_eq_true hgr]; rfl
    have HRL := Lib.hid (fun u (hu : Below w.heap.size w u) => replyLine_any r u (hG.on hu))
    have HCL := Lib.hid (fun u (hu : Below w.heap.size w u) => commandLine_any c u (hG.on hu) (by omega) (by omega))
    have HGR := Lib.hid (fun u (hu : Below w.heap.size w u) => goodReply_any r u)
    rw [e1] at HCL
    rw [e2] at HRL
    rw [show goodR r = true from decide_eq_true hgr] at HGR
    have HRR : Hid (∀ u, Below w.heap.size w u → Calls Tryd.prog 14 #[.string (tx (lineR r))] u fun e w' => e = .returned (.tuple #[.agg #[.int .i64 r.sg, .int .i64 r.st, .bool r.un, .int .i64 r.tr, .bool r.gd], .bool true]) ∧ Below u.heap.size u w') := Lib.hid fun u hu => by
      refine Calls.mono (readReply_any (lineR r) u (hG.on hu) (by omega)) ?_
      rintro e w' ⟨d, ok, rfl, hI, hb⟩
      obtain ⟨rfl, rfl⟩ := rep_self hgr hI
      exact ⟨rfl, hb⟩
    have HRC : Hid (∀ u, Below w.heap.size w u → Calls Tryd.prog 14 #[.string (tx (lineL c))] u fun e w' => ∃ d : Rp, e = .returned (.tuple #[.agg #[.int .i64 d.sg, .int .i64 d.st, .bool d.un, .int .i64 d.tr, .bool d.gd], .bool false]) ∧ Below u.heap.size u w') := Lib.hid fun u hu => by
      refine Calls.mono (readReply_any (lineL c) u (hG.on hu) (by omega)) ?_
      rintro e w' ⟨d, ok, rfl, hI, hb⟩
      rw [rep_other hI]
      exact ⟨d, rfl, hb⟩
    have HCR : Hid (∀ u, Below w.heap.size w u → Calls Tryd.prog 12 #[.string (tx (lineR r))] u fun e w' => ∃ d : Cm, e = .returned (.tuple #[.agg #[.int .i64 d.sg, .int .i64 d.st, .bool d.un, .int .i64 d.tr, .string d.pt, .string d.ky], .bool false]) ∧ Below u.heap.size u w') := Lib.hid fun u hu => by
      refine Calls.mono (readCommand_any (lineR r) u (hG.on hu) (by omega)) ?_
      rintro e w' ⟨d, ok, rfl, hI, hb⟩
      rw [cmd_other hI]
      exact ⟨d, rfl, hb⟩
    have HAn := Lib.hid (fun u (hu : Below w.heap.size w u) => answer_any c good u)
    have hq : ∀ u, (binOp .eql 25 (.agg #[.int .i64 r.sg, .int .i64 r.st, .bool r.un, .int .i64 r.tr, .bool r.gd]) (.agg #[.int .i64 r.sg, .int .i64 r.st, .bool r.un, .int .i64 r.tr, .bool r.gd])).run Tryd.prog u = .ok (.bool true) u := fun u => by
      have := eql_rep r r u
      rw [eqR_same] at this
      exact this
    have hgq : ∀ a b u, (eqGuard .eql 25 a b (.agg #[.int .i64 r.sg, .int .i64 r.st, .bool r.un, .int .i64 r.tr, .bool r.gd]) (.agg #[.int .i64 r.sg, .int .i64 r.st, .bool r.un, .int .i64 r.tr, .bool r.gd])).run Tryd.prog u = .ok () u := fun a b u => guard_rep .eql a b _ _ u
    generalize lineL c = L1 at *
    generalize lineR r = L2 at *
    subst hr
    simp only at HRL HGR HRR HCR hq hgq
    clear hG hgb hg hgr hlr hlc e1 e2
    go_enter Tryd.func4, Tryd.ntmps4
    go_wp2_with (first
      | (go_at_call 5; (with_reducible refine (HA.out _ HB0.out).mono ?_); rintro e w1 ⟨rfl, hb⟩; have HB1 := Lib.hid (HB0.out.trans (hb.mono HB0.out.size)); have Xc1 := Lib.hid (Xc0.out.below hb Xc0.out.lt); have lc1 := Xc1.out.lt; have c1_0 := Xc1.out.cell 0; have c1_1 := Xc1.out.cell 1; have c1_2 := Xc1.out.cell 2; have c1_3 := Xc1.out.cell 3; have c1_4 := Xc1.out.cell 4; have c1_5 := Xc1.out.cell 5; clear hb)
      | (go_at_call 7; (with_reducible refine (HC.out _ HB1.out).mono ?_); rintro e w2 ⟨rfl, hb⟩; have HB2 := Lib.hid (HB1.out.trans (hb.mono HB1.out.size)); have Xc2 := Lib.hid (Xc1.out.below hb Xc1.out.lt); have lc2 := Xc2.out.lt; have c2_0 := Xc2.out.cell 0; have c2_1 := Xc2.out.cell 1; have c2_2 := Xc2.out.cell 2; have c2_3 := Xc2.out.cell 3; have c2_4 := Xc2.out.cell 4; have c2_5 := Xc2.out.cell 5; clear hb)
      | (go_at_call 16; (with_reducible refine (HAn.out _ HB2.out).mono ?_); rintro e w3 ⟨rfl, hb⟩; have HB3 := Lib.hid (HB2.out.trans (hb.mono HB2.out.size)); have Xc3 := Lib.hid (Xc2.out.below hb Xc2.out.lt); have lc3 := Xc3.out.lt; have c3_0 := Xc3.out.cell 0; have c3_1 := Xc3.out.cell 1; have c3_2 := Xc3.out.cell 2; have c3_3 := Xc3.out.cell 3; have c3_4 := Xc3.out.cell 4; have c3_5 := Xc3.out.cell 5; clear hb)
      | (go_at_call 11; (with_reducible refine (HRL.out _ (HB3.out.alloc (HB3.out).size _)).mono ?_); rintro e w4 ⟨rfl, hb⟩; have HB4 := Lib.hid ((HB3.out.alloc (HB3.out).size _).trans (hb.mono (HB3.out.alloc (HB3.out).size _).size)); have Xc4 := Lib.hid ((Xc3.out.alloc _).below hb (Xc3.out.alloc _).lt); have Xr4 := Lib.hid ((Box.new w3 25 #[.int .i64 c.sg, .int .i64 c.st, .bool c.un, .int .i64 c.tr, .bool good]).below hb (Box.new w3 25 #[.int .i64 c.sg, .int .i64 c.st, .bool c.un, .int .i64 c.tr, .bool good]).lt); have lr4 := Xr4.out.lt; have r4_0 := Xr4.out.cell 0; have r4_1 := Xr4.out.cell 1; have r4_2 := Xr4.out.cell 2; have r4_3 := Xr4.out.cell 3; have r4_4 := Xr4.out.cell 4; clear hb)
      | (go_at_call 14; (with_reducible refine (HRR.out _ HB4.out).mono ?_); rintro e w5 ⟨rfl, hb⟩; have HB5 := Lib.hid (HB4.out.trans (hb.mono HB4.out.size)); have Xc5 := Lib.hid (Xc4.out.below hb Xc4.out.lt); have Xr5 := Lib.hid (Xr4.out.below hb Xr4.out.lt); have lc5 := Xc5.out.lt; have c5_0 := Xc5.out.cell 0; have c5_1 := Xc5.out.cell 1; have c5_2 := Xc5.out.cell 2; have c5_3 := Xc5.out.cell 3; have c5_4 := Xc5.out.cell 4; have c5_5 := Xc5.out.cell 5; have lr5 := Xr5.out.lt; have r5_0 := Xr5.out.cell 0; have r5_1 := Xr5.out.cell 1; have r5_2 := Xr5.out.cell 2; have r5_3 := Xr5.out.cell 3; have r5_4 := Xr5.out.cell 4; clear hb)
      | (go_at_call 10; (with_reducible refine (HCL.out _ (HB5.out.alloc (HB5.out).size _)).mono ?_); rintro e w6 ⟨rfl, hb⟩; have HB6 := Lib.hid ((HB5.out.alloc (HB5.out).size _).trans (hb.mono (HB5.out.alloc (HB5.out).size _).size)); have Xc6 := Lib.hid ((Xc5.out.alloc _).below hb (Xc5.out.alloc _).lt); have Xr6 := Lib.hid ((Xr5.out.alloc _).below hb (Xr5.out.alloc _).lt); have Xx6 := Lib.hid ((Box.new w5 25 #[.int .i64 c.sg, .int .i64 c.st, .bool c.un, .int .i64 c.tr, .bool good]).below hb (Box.new w5 25 #[.int .i64 c.sg, .int .i64 c.st, .bool c.un, .int .i64 c.tr, .bool good]).lt); have lc6 := Xc6.out.lt; have c6_0 := Xc6.out.cell 0; have c6_1 := Xc6.out.cell 1; have c6_2 := Xc6.out.cell 2; have c6_3 := Xc6.out.cell 3; have c6_4 := Xc6.out.cell 4; have c6_5 := Xc6.out.cell 5; clear hb)
      | (go_at_call 14; (with_reducible refine (HRC.out _ HB6.out).mono ?_); rintro e w7 ⟨d7, rfl, hb⟩; have HB7 := Lib.hid (HB6.out.trans (hb.mono HB6.out.size)); have Xc7 := Lib.hid (Xc6.out.below hb Xc6.out.lt); have Xr7 := Lib.hid (Xr6.out.below hb Xr6.out.lt); have Xx7 := Lib.hid (Xx6.out.below hb Xx6.out.lt); have lr7 := Xr7.out.lt; have r7_0 := Xr7.out.cell 0; have r7_1 := Xr7.out.cell 1; have r7_2 := Xr7.out.cell 2; have r7_3 := Xr7.out.cell 3; have r7_4 := Xr7.out.cell 4; clear hb)
      | (go_at_call 11; (with_reducible refine (HRL.out _ (HB7.out.alloc (HB7.out).size _)).mono ?_); rintro e w8 ⟨rfl, hb⟩; have HB8 := Lib.hid ((HB7.out.alloc (HB7.out).size _).trans (hb.mono (HB7.out.alloc (HB7.out).size _).size)); have Xc8 := Lib.hid ((Xc7.out.alloc _).below hb (Xc7.out.alloc _).lt); have Xr8 := Lib.hid ((Xr7.out.alloc _).below hb (Xr7.out.alloc _).lt); have Xx8 := Lib.hid ((Xx7.out.alloc _).below hb (Xx7.out.alloc _).lt); have Xd8 := Lib.hid ((Box.new w7 25 #[.int .i64 d7.sg, .int .i64 d7.st, .bool d7.un, .int .i64 d7.tr, .bool d7.gd]).below hb (Box.new w7 25 #[.int .i64 d7.sg, .int .i64 d7.st, .bool d7.un, .int .i64 d7.tr, .bool d7.gd]).lt); have lr8 := Xr8.out.lt; have r8_0 := Xr8.out.cell 0; have r8_1 := Xr8.out.cell 1; have r8_2 := Xr8.out.cell 2; have r8_3 := Xr8.out.cell 3; have r8_4 := Xr8.out.cell 4; clear hb)
      | (go_at_call 12; (with_reducible refine (HCR.out _ HB8.out).mono ?_); rintro e w9 ⟨d9, rfl, hb⟩; have HB9 := Lib.hid (HB8.out.trans (hb.mono HB8.out.size)); have Xc9 := Lib.hid (Xc8.out.below hb Xc8.out.lt); have Xr9 := Lib.hid (Xr8.out.below hb Xr8.out.lt); have Xx9 := Lib.hid (Xx8.out.below hb Xx8.out.lt); have Xd9 := Lib.hid (Xd8.out.below hb Xd8.out.lt); have lr9 := Xr9.out.lt; have r9_0 := Xr9.out.cell 0; have r9_1 := Xr9.out.cell 1; have r9_2 := Xr9.out.cell 2; have r9_3 := Xr9.out.cell 3; have r9_4 := Xr9.out.cell 4; clear hb)
      | (go_at_call 8; (with_reducible refine (HGR.out _ (HB9.out.alloc (HB9.out).size _)).mono ?_); rintro e w10 ⟨rfl, hb⟩; have HB10 := Lib.hid ((HB9.out.alloc (HB9.out).size _).trans (hb.mono (HB9.out.alloc (HB9.out).size _).size)); have Xc10 := Lib.hid ((Xc9.out.alloc _).below hb (Xc9.out.alloc _).lt); have Xr10 := Lib.hid ((Xr9.out.alloc _).below hb (Xr9.out.alloc _).lt); have Xx10 := Lib.hid ((Xx9.out.alloc _).below hb (Xx9.out.alloc _).lt); have Xd10 := Lib.hid ((Xd9.out.alloc _).below hb (Xd9.out.alloc _).lt); have Xf10 := Lib.hid ((Box.new w9 23 #[.int .i64 d9.sg, .int .i64 d9.st, .bool d9.un, .int .i64 d9.tr, .string d9.pt, .string d9.ky]).below hb (Box.new w9 23 #[.int .i64 d9.sg, .int .i64 d9.st, .bool d9.un, .int .i64 d9.tr, .string d9.pt, .string d9.ky]).lt); have lc10 := Xc10.out.lt; have c10_0 := Xc10.out.cell 0; have c10_1 := Xc10.out.cell 1; have c10_2 := Xc10.out.cell 2; have c10_3 := Xc10.out.cell 3; have c10_4 := Xc10.out.cell 4; have c10_5 := Xc10.out.cell 5; have lr10 := Xr10.out.lt; have r10_0 := Xr10.out.cell 0; have r10_1 := Xr10.out.cell 1; have r10_2 := Xr10.out.cell 2; have r10_3 := Xr10.out.cell 3; have r10_4 := Xr10.out.cell 4; have lx10 := Xx10.out.lt; have x10_0 := Xx10.out.cell 0; have x10_1 := Xx10.out.cell 1; have x10_2 := Xx10.out.cell 2; have x10_3 := Xx10.out.cell 3; have x10_4 := Xx10.out.cell 4; clear hb))
    go_ret
    exact ⟨rfl, HB10.out⟩

set_option maxRecDepth 100000 in
theorem lifted (os : Os) (started : os.Started) (H : Type) (enc : TypeId × Value → H) :
    ReturnsInHanded {} Tryd.checked os 4 .any (fun w args => (Rows.wireAnswersSpec.pre enc Tryd.prog Tryd.f4 Rows.wireAnswersRow.domain false w args ∧ laidMetH Tryd.prog Rows.wireAnswersRow.laid w) ∧ sizedMet enc Tryd.prog Tryd.f4 (OpenSpec.ofChange Rows.wireAnswersSpec) false w args)
      (Rows.wireAnswersSpec.post enc Tryd.prog Tryd.f4 false true false false) := by
  refine returns_both (C := Tryd.checked) (X := fun w _ => laidMetH Tryd.prog Rows.wireAnswersRow.laid w) (fun _ _ _ hh h => h.of_heap hh) own started (by kernel_rfl) Tryd.func4
    (ChangeSpec.witness_shaped (enc := enc) (C := Tryd.checked) (os := os) (X := fun w _ => laidMetH Tryd.prog Rows.wireAnswersRow.laid w) false (World.laidAll Tryd.prog os Rows.wireAnswersRow.laid) #[.agg #[.int .i64 0, .int .i64 0, .bool false, .int .i64 0, .string ⟨#[]⟩, .string ⟨#[]⟩], .bool false] 8 (World.laidAll_os _ _ _)
      (World.shaped_of_ZipB (by kernel_rfl) (by kernel_rfl)) (by kernel_rfl) (by kernel_rfl) (by kernel_rfl)
      (by rw [MakeChecks.laidMetH_plain _ _ _ (by kernel_rfl)]; exact laidMet_laidAll _ (by kernel_rfl) (by kernel_rfl))) ?_
  intro W base args ds gs before hval0 hW _ hlaid hsh
  have hGl : Gl W := gl_of hlaid hsh
  have hval : ∀ (j : Nat) t v, Tryd.f4.params[j]? = some t → args[j]? = some v → Value.okWide Tryd.prog W .any base t v := hval0
  have hW' := hW
  obtain ⟨p, q, hA0, hV, rfl, _, _⟩ := hW
  have hA : DataW.TrodAll enc Tryd.prog W 0 (fun _ => true) true Tryd.f4.params.toList args.toList ds p := hA0
  rw [Tryd.params4] at hA hval
  obtain ⟨rfl, rfl⟩ := trodVars_none hV
  obtain ⟨v0, vs0, d0, ds0, p0, q0, hargs, rfl, rfl, h0, r0⟩ := trodAll_cons hA
  obtain ⟨v1, vs1, d1, ds1, p1, q1, rfl, rfl, rfl, h1, r1⟩ := trodAll_cons r0
  obtain ⟨rfl, rfl, rfl⟩ := trodAll_nil r1
  obtain rfl : args = #[v0, v1] := by cases args; simp_all
  obtain ⟨c0, y0⟩ := arg_cm (hval 0 23 v0 rfl rfl) h0
  subst y0
  obtain ⟨a1, rfl, rfl, rfl⟩ := open_bool Tryd.underlying4 (hval 1 4 v1 rfl rfl) h1
  clear hA0 hval0
  simp only [List.append_nil] at hW'
  have hlt0 : ∀ x ∈ p0, x.block < W.heap.size := fun x hx => by simpa using hW'.lt x (by simp [hx])
  refine (walk c0 a1 W hGl).mono fun e W' ⟨he, bel⟩ => ?_
  subst he
  exact ⟨_, rfl, _, _, _, [], _, [], hW', trodAll_mk1 (shut_bool Tryd.underlying4 _), (trodAll_cons_mk (Below.trod laidOut (by kernel_rfl) (of_decide_eq_true (by kernel_rfl)) h0 bel hlt0) (trodAll_cons_mk (shut_bool Tryd.underlying4 _) trodAll_mk0)), rfl, bel.frame _, fun h => by cases h⟩

theorem over : Rows.wireAnswersRow.holds Tryd.pinned (OpenSpec.ofChange Rows.wireAnswersSpec) :=
  OpenClaim.holds_of_wide 4 Tryd.f4 rfl rfl rfl rfl rfl rfl rfl ⟨rfl, rfl, rfl, rfl, rfl⟩ rfl rfl rfl rfl rfl (by kernel_rfl) Tryd.func4 (by kernel_rfl)
    (of_decide_eq_true (by kernel_rfl)) (by unfold Func.isWrapper; first | (rw [if_pos (by decide +kernel)]; kernel_rfl) | (rw [if_neg (by decide +kernel)]; exact ⟨rfl, rfl⟩))
    (fun os started H enc _ => lifted os started H enc)

/-- the statement -/
theorem proved : Rows.WireAnswersCardSaid :=
  Claim7.holds_tied_plain_at .later [] [.data, .data, .data, .data, .sentinel, .sentinel, .pinned] true Rows.wireAnswersCard.stood.harness true over (fun _ h => by cases h) (by kernel_rfl) (fun _ h => by cases h) wireAnswers_row_tie rfl ⟨rfl, rfl⟩ (by kernel_rfl) rfl
    (fun f fn hf hfn => by
      obtain rfl : f = 4 := Option.some.inj ((show Tryd.prog.funcNamed Rows.wireAnswersRow.func = some 4 by kernel_rfl).symm.trans hf) |>.symm
      obtain rfl : fn = Tryd.f4 := (Option.some.inj (Tryd.func4.symm.trans hfn)).symm
      exact ⟨by kernel_rfl, fun j t ht => by
        rw [Tryd.params4] at ht
        have hm : t ∈ [23, 4] := by simpa using Array.mem_of_getElem? ht
        have hall : ([23, 4].all fun u => !Tryd.prog.wantsStandIn u) = true := by kernel_rfl
        exact (show Tryd.prog.wantsStandIn t = false by simpa using List.all_eq_true.1 hall t hm)⟩)
    (by kernel_rfl)
#print axioms proved
end Go.Proofs.YtllpjfbcjcnpcaaDoor.wireAnswers
