/-
  The document's takePlan.
  Conditions: the place is within the bytes; they are at most 2^40.
-/
import Derived.Test.YtihkadbcjeohjaaCodRefN
import Derived.Test.YtihkadbcjeohjaaCodTaken
import Derived.StillTailTactics
namespace Go.Proofs.Ytihkadbcjeohjaa.Co
open Go.RowKit
open Go.Proofs.Ytihkadbcjeohjaa.El
open Go.Proofs.Ytihkadbcjeohjaa.Df
open Go.Proofs.Ytihkadbcjeohjaa.Bo (P Made ret_int ret_bool)
open Go.Proofs.Ytihkadbcjeohjaa.Sa (Sg Rp)

theorem box_off {u : World} {g g' : Nat} {t : TypeId} {cs : Array Value} (h : Box u g t cs) (hne : g ≠ g') (cs' : Array Value) : Box (u.setRow g' cs') g t cs := (setRow_other u g' g cs' hne).trans h
theorem results_cc {fn : Func} {p q : Tmp} {ty ty' : TypeId} (h : fn.results = #[.cell p ty, .cell q ty']) (tmps : Array Value) (P : Program) (w : World) :
    (results fn tmps).run P w = ((asAddr (tmps.getD p undef)).run P w).andThen fun a w₁ => ((loadVar ty a).run P w₁).andThen fun v w₂ => ((asAddr (tmps.getD q undef)).run P w₂).andThen fun b w₃ => ((loadVar ty' b).run P w₃).andThen fun x w₄ => .ok (.tuple #[v, x]) w₄ := by
  simp only [results, h]
  simp [Sem.run_bind, Result.andThen]
  repeat' (split; · rfl)
  all_goals rfl
theorem res_cc {fn : Func} {p q : Tmp} {ty ty' : TypeId} {fs fs' : Array Field} (h : fn.results = #[.cell p ty, .cell q ty']) (tmps : Array Value) (w : World) (g g' : Nat) (cs cs' : Array Value) (hu : Try.prog.underlying ty = some (.struct fs)) (hu' : Try.prog.underlying ty' = some (.struct fs'))
    (hi : (Try.prog.info? ty).map (·.size) = some cs.size) (hi' : (Try.prog.info? ty').map (·.size) = some cs'.size)
    (hp : tmps.getD p undef = .pointer (some ⟨g, 0, none⟩)) (hq : tmps.getD q undef = .pointer (some ⟨g', 0, none⟩)) (hg : Box w g ty cs) (hg' : Box w g' ty' cs') : (results fn tmps).run Try.prog w = .ok (.tuple #[.agg cs, .agg cs']) w := by
  rw [results_cc h, hp, hq]
  simp only [asAddr, Sem.run_pure, Result.andThen_ok, run_loadVar_row w g _ ty _ _ _ hg hu rfl hi, run_loadVar_row w g' _ ty' _ _ _ hg' hu' rfl hi']
set_option maxHeartbeats 8000000 in
set_option maxRecDepth 100000 in
theorem takePlan_s (B : ByteArray) (s : Ps) (n : Int) (S : ByteArray) (y : Bool) (w : World) (hk : Ok B s) :
    Calls Try.prog 66 #[.agg (stQ B s n S y)] w fun e w' => (∃ n', e = .returned (.tuple #[.agg (stQ B (planS B.data.toList s) n' S y), .agg #[.int .i64 (planQ B.data.toList s).r, .int .i64 (planQ B.data.toList s).b, .int .i64 (planQ B.data.toList s).f, .int .i64 (planQ B.data.toList s).c]])) ∧ Below w.heap.size w w' := by
  unfold stQ
  obtain ⟨hx0, hx1, hx2, hx3⟩ := box4 w 85 85 65 65 #[.string B, .int .i64 (s.p : Nat), .int .i64 (s.e : Nat), .int .i64 (s.o : Nat), .int .i64 n, .string S, .bool y] #[.string ⟨#[]⟩, .int .i64 0, .int .i64 0, .int .i64 0, .int .i64 0, .string ⟨#[]⟩, .bool false] #[.int .i64 0, .int .i64 0, .int .i64 0, .int .i64 0] #[.int .i64 0, .int .i64 0, .int .i64 0, .int .i64 0]
  have HS0 := Lib.hid hx0
  have HO0_0 := Lib.hid hx1
  have HO1_0 := Lib.hid hx2
  have HX0 := Lib.hid hx3
  have HB0 : Hid (Below w.heap.size w ((((w.alloc (.cells #[.string B, .int .i64 (s.p : Nat), .int .i64 (s.e : Nat), .int .i64 (s.o : Nat), .int .i64 n, .string S, .bool y] 85)).alloc (.cells #[.string ⟨#[]⟩, .int .i64 0, .int .i64 0, .int .i64 0, .int .i64 0, .string ⟨#[]⟩, .bool false] 85)).alloc (.cells #[.int .i64 0, .int .i64 0, .int .i64 0, .int .i64 0] 65)).alloc (.cells #[.int .i64 0, .int .i64 0, .int .i64 0, .int .i64 0] 65))) := Lib.hid (((((Below.refl w.heap.size w).alloc (Nat.le_refl _) _).alloc (by simp) _).alloc (by simp; omega) _).alloc (by simp; omega) _)
  clear hx0 hx1 hx2 hx3
  obtain ⟨s1, hs1⟩ : ∃ t, t = numS B.data.toList (s) := ⟨_, rfl⟩
  obtain ⟨q1, hq1⟩ : ∃ q, q = numQ B.data.toList (s) := ⟨_, rfl⟩
  have HT1 : Hid (∀ W, Calls Try.prog 46 #[.agg #[.string B, .int .i64 ((s).p : Nat), .int .i64 ((s).e : Nat), .int .i64 ((s).o : Nat), .int .i64 n, .string S, .bool y]] W fun e w2 => e = .returned (.agg #[.string B, .int .i64 ((s1).p : Nat), .int .i64 ((s1).e : Nat), .int .i64 ((s1).o : Nat), .int .i64 (q1 : Nat), .string S, .bool y]) ∧ Below W.heap.size W w2) := Lib.hid fun W => by rw [hs1, hq1]; exact takeN_s B (s) _ _ _ W (hk)
  have ok1 : Ok B s1 := by rw [hs1]; exact Ok.num (hk)
  obtain ⟨s2, hs2⟩ : ∃ t, t = numS B.data.toList (s1) := ⟨_, rfl⟩
  obtain ⟨q2, hq2⟩ : ∃ q, q = numQ B.data.toList (s1) := ⟨_, rfl⟩
  have HT2 : Hid (∀ W, Calls Try.prog 46 #[.agg #[.string B, .int .i64 ((s1).p : Nat), .int .i64 ((s1).e : Nat), .int .i64 ((s1).o : Nat), .int .i64 (q1 : Nat), .string S, .bool y]] W fun e w2 => e = .returned (.agg #[.string B, .int .i64 ((s2).p : Nat), .int .i64 ((s2).e : Nat), .int .i64 ((s2).o : Nat), .int .i64 (q2 : Nat), .string S, .bool y]) ∧ Below W.heap.size W w2) := Lib.hid fun W => by rw [hs2, hq2]; exact takeN_s B (s1) _ _ _ W (ok1)
  have ok2 : Ok B s2 := by rw [hs2]; exact Ok.num (ok1)
  obtain ⟨s3, hs3⟩ : ∃ t, t = numS B.data.toList (s2) := ⟨_, rfl⟩
  obtain ⟨q3, hq3⟩ : ∃ q, q = numQ B.data.toList (s2) := ⟨_, rfl⟩
  have HT3 : Hid (∀ W, Calls Try.prog 46 #[.agg #[.string B, .int .i64 ((s2).p : Nat), .int .i64 ((s2).e : Nat), .int .i64 ((s2).o : Nat), .int .i64 (q2 : Nat), .string S, .bool y]] W fun e w2 => e = .returned (.agg #[.string B, .int .i64 ((s3).p : Nat), .int .i64 ((s3).e : Nat), .int .i64 ((s3).o : Nat), .int .i64 (q3 : Nat), .string S, .bool y]) ∧ Below W.heap.size W w2) := Lib.hid fun W => by rw [hs3, hq3]; exact takeN_s B (s2) _ _ _ W (ok2)
  have ok3 : Ok B s3 := by rw [hs3]; exact Ok.num (ok2)
  obtain ⟨s4, hs4⟩ : ∃ t, t = numS B.data.toList (s3) := ⟨_, rfl⟩
  obtain ⟨q4, hq4⟩ : ∃ q, q = numQ B.data.toList (s3) := ⟨_, rfl⟩
  have HT4 : Hid (∀ W, Calls Try.prog 46 #[.agg #[.string B, .int .i64 ((s3).p : Nat), .int .i64 ((s3).e : Nat), .int .i64 ((s3).o : Nat), .int .i64 (q3 : Nat), .string S, .bool y]] W fun e w2 => e = .returned (.agg #[.string B, .int .i64 ((s4).p : Nat), .int .i64 ((s4).e : Nat), .int .i64 ((s4).o : Nat), .int .i64 (q4 : Nat), .string S, .bool y]) ∧ Below W.heap.size W w2) := Lib.hid fun W => by rw [hs4, hq4]; exact takeN_s B (s3) _ _ _ W (ok3)
  have ok4 : Ok B s4 := by rw [hs4]; exact Ok.num (ok3)
  have HG : Hid (planS B.data.toList s = s4 ∧ planQ B.data.toList s = ⟨q1, q2, q3, q4⟩) := Lib.hid (by subst_vars; exact ⟨rfl, rfl⟩)
  have Hok4 := Lib.hid ok4
  clear ok4 hs4 hq4
  have Hok3 := Lib.hid ok3
  clear ok3 hs3 hq3
  have Hok2 := Lib.hid ok2
  clear ok2 hs2 hq2
  have Hok1 := Lib.hid ok1
  clear ok1 hs1 hq1
  rw [HG.out.1, HG.out.2]
  clear HG hk
  go_enter Try.func66, Try.ntmps66
  go_upto_region 2 with fail
  generalize (((w.alloc (.cells #[.string B, .int .i64 (s.p : Nat), .int .i64 (s.e : Nat), .int .i64 (s.o : Nat), .int .i64 n, .string S, .bool y] 85)).alloc (.cells #[.string ⟨#[]⟩, .int .i64 0, .int .i64 0, .int .i64 0, .int .i64 0, .string ⟨#[]⟩, .bool false] 85)).alloc (.cells #[.int .i64 0, .int .i64 0, .int .i64 0, .int .i64 0] 65)).alloc (.cells #[.int .i64 0, .int .i64 0, .int .i64 0, .int .i64 0] 65) = W0 at *
  obtain ⟨e0, e1, e2, e3, e4, e5, e6⟩ := stcell HS0.out
  go_wp2_with fail
  refine (HT1.out _).mono ?_
  rintro e w1 ⟨rfl, hb⟩
  have HR1 := Lib.hid (HS0.out.below hb HS0.out.lt)
  have HU1 := Lib.hid (HX0.out.below hb HX0.out.lt)
  have HD1 := Lib.hid (HB0.out.trans (hb.mono HB0.out.size))
  have HV0_1 := Lib.hid (HO0_0.out.below hb HO0_0.out.lt)
  have HV1_1 := Lib.hid (HO1_0.out.below hb HO1_0.out.lt)
  clear hb HS0 HX0 HB0 HO0_0 HO1_0 HT1
  clear e0 e1 e2 e3 e4 e5 e6
  go_wp2_with (refine wpList_store_row rfl 85 (.tmp 1) (.tmp 7) rfl (w.heap.size) 85 _ #[.string B, .int .i64 ((s1).p : Nat), .int .i64 ((s1).e : Nat), .int .i64 ((s1).o : Nat), .int .i64 (q1 : Nat), .string S, .bool y] rfl rfl HR1.out (size_st _ _ _ _ _ _ _) rfl (by simp [Value.oneCell']) ?_; have HI1 := Lib.hid (box_set HR1.out #[.string B, .int .i64 ((s1).p : Nat), .int .i64 ((s1).e : Nat), .int .i64 ((s1).o : Nat), .int .i64 (q1 : Nat), .string S, .bool y]); have HY1 := Lib.hid (box_off HU1.out (show w.heap.size + 3 ≠ w.heap.size by omega) #[.string B, .int .i64 ((s1).p : Nat), .int .i64 ((s1).e : Nat), .int .i64 ((s1).o : Nat), .int .i64 (q1 : Nat), .string S, .bool y]); have HC1 := Lib.hid (below_putRow HD1.out (show w.heap.size ≤ w.heap.size by omega) #[.string B, .int .i64 ((s1).p : Nat), .int .i64 ((s1).e : Nat), .int .i64 ((s1).o : Nat), .int .i64 (q1 : Nat), .string S, .bool y]); have HP0_1 := Lib.hid (box_off HV0_1.out (show w.heap.size + 1 ≠ w.heap.size by omega) #[.string B, .int .i64 ((s1).p : Nat), .int .i64 ((s1).e : Nat), .int .i64 ((s1).o : Nat), .int .i64 (q1 : Nat), .string S, .bool y]); have HP1_1 := Lib.hid (box_off HV1_1.out (show w.heap.size + 2 ≠ w.heap.size by omega) #[.string B, .int .i64 ((s1).p : Nat), .int .i64 ((s1).e : Nat), .int .i64 ((s1).o : Nat), .int .i64 (q1 : Nat), .string S, .bool y]); clear HR1 HU1 HD1 HV0_1 HV1_1; generalize w1.setRow (w.heap.size) #[.string B, .int .i64 ((s1).p : Nat), .int .i64 ((s1).e : Nat), .int .i64 ((s1).o : Nat), .int .i64 (q1 : Nat), .string S, .bool y] = u1 at *; obtain ⟨d0, d1, d2, d3, d4, d5, d6⟩ := stcell (s := s1) HI1.out; have xo := HY1.out.cell 0; simp only [List.getElem?_toArray, List.getElem?_cons_zero] at xo; have xf := HY1.out.frozen 0; have HS1 := Lib.hid (HI1.out.far (p := ⟨w.heap.size + 3, 0, none⟩) (show w.heap.size ≠ w.heap.size + 3 by omega) (.int .i64 (q1 : Nat))); have HX1 : Hid (Box (u1.setCell ⟨w.heap.size + 3, 0, none⟩ (.int .i64 (q1 : Nat))) (w.heap.size + 3) 65 #[.int .i64 (q1 : Nat), .int .i64 0, .int .i64 0, .int .i64 0]) := Lib.hid (HY1.out.put 0 (.int .i64 (q1 : Nat))); have HB1 := Lib.hid (HC1.out.setCell (p := ⟨w.heap.size + 3, 0, none⟩) (show w.heap.size ≤ w.heap.size + 3 by omega) (.int .i64 (q1 : Nat))); have HO0_1 := Lib.hid (HP0_1.out.far (p := ⟨w.heap.size + 3, 0, none⟩) (show w.heap.size + 1 ≠ w.heap.size + 3 by omega) (.int .i64 (q1 : Nat))); have HO1_1 := Lib.hid (HP1_1.out.far (p := ⟨w.heap.size + 3, 0, none⟩) (show w.heap.size + 2 ≠ w.heap.size + 3 by omega) (.int .i64 (q1 : Nat))); obtain ⟨e0, e1, e2, e3, e4, e5, e6⟩ := stcell (s := s1) HS1.out)
  clear d0 d1 d2 d3 d4 d5 d6 xo xf e0 e1 e2 e3 e4 e5 e6 HI1 HY1 HC1 HP0_1 HP1_1
  generalize u1.setCell ⟨w.heap.size + 3, 0, none⟩ (.int .i64 (q1 : Nat)) = V1 at *
  refine (HT2.out _).mono ?_
  rintro e w2 ⟨rfl, hb⟩
  have HR2 := Lib.hid (HS1.out.below hb HS1.out.lt)
  have HU2 := Lib.hid (HX1.out.below hb HX1.out.lt)
  have HD2 := Lib.hid (HB1.out.trans (hb.mono HB1.out.size))
  have HV0_2 := Lib.hid (HO0_1.out.below hb HO0_1.out.lt)
  have HV1_2 := Lib.hid (HO1_1.out.below hb HO1_1.out.lt)
  clear hb HS1 HX1 HB1 HO0_1 HO1_1 HT2
  go_wp2_with (refine wpList_store_row rfl 85 (.tmp 1) (.tmp 12) rfl (w.heap.size) 85 _ #[.string B, .int .i64 ((s2).p : Nat), .int .i64 ((s2).e : Nat), .int .i64 ((s2).o : Nat), .int .i64 (q2 : Nat), .string S, .bool y] rfl rfl HR2.out (size_st _ _ _ _ _ _ _) rfl (by simp [Value.oneCell']) ?_; have HI2 := Lib.hid (box_set HR2.out #[.string B, .int .i64 ((s2).p : Nat), .int .i64 ((s2).e : Nat), .int .i64 ((s2).o : Nat), .int .i64 (q2 : Nat), .string S, .bool y]); have HY2 := Lib.hid (box_off HU2.out (show w.heap.size + 3 ≠ w.heap.size by omega) #[.string B, .int .i64 ((s2).p : Nat), .int .i64 ((s2).e : Nat), .int .i64 ((s2).o : Nat), .int .i64 (q2 : Nat), .string S, .bool y]); have HC2 := Lib.hid (below_putRow HD2.out (show w.heap.size ≤ w.heap.size by omega) #[.string B, .int .i64 ((s2).p : Nat), .int .i64 ((s2).e : Nat), .int .i64 ((s2).o : Nat), .int .i64 (q2 : Nat), .string S, .bool y]); have HP0_2 := Lib.hid (box_off HV0_2.out (show w.heap.size + 1 ≠ w.heap.size by omega) #[.string B, .int .i64 ((s2).p : Nat), .int .i64 ((s2).e : Nat), .int .i64 ((s2).o : Nat), .int .i64 (q2 : Nat), .string S, .bool y]); have HP1_2 := Lib.hid (box_off HV1_2.out (show w.heap.size + 2 ≠ w.heap.size by omega) #[.string B, .int .i64 ((s2).p : Nat), .int .i64 ((s2).e : Nat), .int .i64 ((s2).o : Nat), .int .i64 (q2 : Nat), .string S, .bool y]); clear HR2 HU2 HD2 HV0_2 HV1_2; generalize w2.setRow (w.heap.size) #[.string B, .int .i64 ((s2).p : Nat), .int .i64 ((s2).e : Nat), .int .i64 ((s2).o : Nat), .int .i64 (q2 : Nat), .string S, .bool y] = u2 at *; obtain ⟨d0, d1, d2, d3, d4, d5, d6⟩ := stcell (s := s2) HI2.out; have xo := HY2.out.cell 1; simp only [List.getElem?_toArray, List.getElem?_cons_zero, List.getElem?_cons_succ] at xo; have xf := HY2.out.frozen 1; have HS2 := Lib.hid (HI2.out.far (p := ⟨w.heap.size + 3, 1, none⟩) (show w.heap.size ≠ w.heap.size + 3 by omega) (.int .i64 (q2 : Nat))); have HX2 : Hid (Box (u2.setCell ⟨w.heap.size + 3, 1, none⟩ (.int .i64 (q2 : Nat))) (w.heap.size + 3) 65 #[.int .i64 (q1 : Nat), .int .i64 (q2 : Nat), .int .i64 0, .int .i64 0]) := Lib.hid (HY2.out.put 1 (.int .i64 (q2 : Nat))); have HB2 := Lib.hid (HC2.out.setCell (p := ⟨w.heap.size + 3, 1, none⟩) (show w.heap.size ≤ w.heap.size + 3 by omega) (.int .i64 (q2 : Nat))); have HO0_2 := Lib.hid (HP0_2.out.far (p := ⟨w.heap.size + 3, 1, none⟩) (show w.heap.size + 1 ≠ w.heap.size + 3 by omega) (.int .i64 (q2 : Nat))); have HO1_2 := Lib.hid (HP1_2.out.far (p := ⟨w.heap.size + 3, 1, none⟩) (show w.heap.size + 2 ≠ w.heap.size + 3 by omega) (.int .i64 (q2 : Nat))); obtain ⟨e0, e1, e2, e3, e4, e5, e6⟩ := stcell (s := s2) HS2.out)
  clear d0 d1 d2 d3 d4 d5 d6 xo xf e0 e1 e2 e3 e4 e5 e6 HI2 HY2 HC2 HP0_2 HP1_2
  generalize u2.setCell ⟨w.heap.size + 3, 1, none⟩ (.int .i64 (q2 : Nat)) = V2 at *
  refine (HT3.out _).mono ?_
  rintro e w3 ⟨rfl, hb⟩
  have HR3 := Lib.hid (HS2.out.below hb HS2.out.lt)
  have HU3 := Lib.hid (HX2.out.below hb HX2.out.lt)
  have HD3 := Lib.hid (HB2.out.trans (hb.mono HB2.out.size))
  have HV0_3 := Lib.hid (HO0_2.out.below hb HO0_2.out.lt)
  have HV1_3 := Lib.hid (HO1_2.out.below hb HO1_2.out.lt)
  clear hb HS2 HX2 HB2 HO0_2 HO1_2 HT3
  go_wp2_with (refine wpList_store_row rfl 85 (.tmp 1) (.tmp 17) rfl (w.heap.size) 85 _ #[.string B, .int .i64 ((s3).p : Nat), .int .i64 ((s3).e : Nat), .int .i64 ((s3).o : Nat), .int .i64 (q3 : Nat), .string S, .bool y] rfl rfl HR3.out (size_st _ _ _ _ _ _ _) rfl (by simp [Value.oneCell']) ?_; have HI3 := Lib.hid (box_set HR3.out #[.string B, .int .i64 ((s3).p : Nat), .int .i64 ((s3).e : Nat), .int .i64 ((s3).o : Nat), .int .i64 (q3 : Nat), .string S, .bool y]); have HY3 := Lib.hid (box_off HU3.out (show w.heap.size + 3 ≠ w.heap.size by omega) #[.string B, .int .i64 ((s3).p : Nat), .int .i64 ((s3).e : Nat), .int .i64 ((s3).o : Nat), .int .i64 (q3 : Nat), .string S, .bool y]); have HC3 := Lib.hid (below_putRow HD3.out (show w.heap.size ≤ w.heap.size by omega) #[.string B, .int .i64 ((s3).p : Nat), .int .i64 ((s3).e : Nat), .int .i64 ((s3).o : Nat), .int .i64 (q3 : Nat), .string S, .bool y]); have HP0_3 := Lib.hid (box_off HV0_3.out (show w.heap.size + 1 ≠ w.heap.size by omega) #[.string B, .int .i64 ((s3).p : Nat), .int .i64 ((s3).e : Nat), .int .i64 ((s3).o : Nat), .int .i64 (q3 : Nat), .string S, .bool y]); have HP1_3 := Lib.hid (box_off HV1_3.out (show w.heap.size + 2 ≠ w.heap.size by omega) #[.string B, .int .i64 ((s3).p : Nat), .int .i64 ((s3).e : Nat), .int .i64 ((s3).o : Nat), .int .i64 (q3 : Nat), .string S, .bool y]); clear HR3 HU3 HD3 HV0_3 HV1_3; generalize w3.setRow (w.heap.size) #[.string B, .int .i64 ((s3).p : Nat), .int .i64 ((s3).e : Nat), .int .i64 ((s3).o : Nat), .int .i64 (q3 : Nat), .string S, .bool y] = u3 at *; obtain ⟨d0, d1, d2, d3, d4, d5, d6⟩ := stcell (s := s3) HI3.out; have xo := HY3.out.cell 2; simp only [List.getElem?_toArray, List.getElem?_cons_zero, List.getElem?_cons_succ] at xo; have xf := HY3.out.frozen 2; have HS3 := Lib.hid (HI3.out.far (p := ⟨w.heap.size + 3, 2, none⟩) (show w.heap.size ≠ w.heap.size + 3 by omega) (.int .i64 (q3 : Nat))); have HX3 : Hid (Box (u3.setCell ⟨w.heap.size + 3, 2, none⟩ (.int .i64 (q3 : Nat))) (w.heap.size + 3) 65 #[.int .i64 (q1 : Nat), .int .i64 (q2 : Nat), .int .i64 (q3 : Nat), .int .i64 0]) := Lib.hid (HY3.out.put 2 (.int .i64 (q3 : Nat))); have HB3 := Lib.hid (HC3.out.setCell (p := ⟨w.heap.size + 3, 2, none⟩) (show w.heap.size ≤ w.heap.size + 3 by omega) (.int .i64 (q3 : Nat))); have HO0_3 := Lib.hid (HP0_3.out.far (p := ⟨w.heap.size + 3, 2, none⟩) (show w.heap.size + 1 ≠ w.heap.size + 3 by omega) (.int .i64 (q3 : Nat))); have HO1_3 := Lib.hid (HP1_3.out.far (p := ⟨w.heap.size + 3, 2, none⟩) (show w.heap.size + 2 ≠ w.heap.size + 3 by omega) (.int .i64 (q3 : Nat))); obtain ⟨e0, e1, e2, e3, e4, e5, e6⟩ := stcell (s := s3) HS3.out)
  clear d0 d1 d2 d3 d4 d5 d6 xo xf e0 e1 e2 e3 e4 e5 e6 HI3 HY3 HC3 HP0_3 HP1_3
  generalize u3.setCell ⟨w.heap.size + 3, 2, none⟩ (.int .i64 (q3 : Nat)) = V3 at *
  refine (HT4.out _).mono ?_
  rintro e w4 ⟨rfl, hb⟩
  have HR4 := Lib.hid (HS3.out.below hb HS3.out.lt)
  have HU4 := Lib.hid (HX3.out.below hb HX3.out.lt)
  have HD4 := Lib.hid (HB3.out.trans (hb.mono HB3.out.size))
  have HV0_4 := Lib.hid (HO0_3.out.below hb HO0_3.out.lt)
  have HV1_4 := Lib.hid (HO1_3.out.below hb HO1_3.out.lt)
  clear hb HS3 HX3 HB3 HO0_3 HO1_3 HT4
  go_wp2_with (refine wpList_store_row rfl 85 (.tmp 1) (.tmp 22) rfl (w.heap.size) 85 _ #[.string B, .int .i64 ((s4).p : Nat), .int .i64 ((s4).e : Nat), .int .i64 ((s4).o : Nat), .int .i64 (q4 : Nat), .string S, .bool y] rfl rfl HR4.out (size_st _ _ _ _ _ _ _) rfl (by simp [Value.oneCell']) ?_; have HI4 := Lib.hid (box_set HR4.out #[.string B, .int .i64 ((s4).p : Nat), .int .i64 ((s4).e : Nat), .int .i64 ((s4).o : Nat), .int .i64 (q4 : Nat), .string S, .bool y]); have HY4 := Lib.hid (box_off HU4.out (show w.heap.size + 3 ≠ w.heap.size by omega) #[.string B, .int .i64 ((s4).p : Nat), .int .i64 ((s4).e : Nat), .int .i64 ((s4).o : Nat), .int .i64 (q4 : Nat), .string S, .bool y]); have HC4 := Lib.hid (below_putRow HD4.out (show w.heap.size ≤ w.heap.size by omega) #[.string B, .int .i64 ((s4).p : Nat), .int .i64 ((s4).e : Nat), .int .i64 ((s4).o : Nat), .int .i64 (q4 : Nat), .string S, .bool y]); have HP0_4 := Lib.hid (box_off HV0_4.out (show w.heap.size + 1 ≠ w.heap.size by omega) #[.string B, .int .i64 ((s4).p : Nat), .int .i64 ((s4).e : Nat), .int .i64 ((s4).o : Nat), .int .i64 (q4 : Nat), .string S, .bool y]); have HP1_4 := Lib.hid (box_off HV1_4.out (show w.heap.size + 2 ≠ w.heap.size by omega) #[.string B, .int .i64 ((s4).p : Nat), .int .i64 ((s4).e : Nat), .int .i64 ((s4).o : Nat), .int .i64 (q4 : Nat), .string S, .bool y]); clear HR4 HU4 HD4 HV0_4 HV1_4; generalize w4.setRow (w.heap.size) #[.string B, .int .i64 ((s4).p : Nat), .int .i64 ((s4).e : Nat), .int .i64 ((s4).o : Nat), .int .i64 (q4 : Nat), .string S, .bool y] = u4 at *; obtain ⟨d0, d1, d2, d3, d4, d5, d6⟩ := stcell (s := s4) HI4.out; have xo := HY4.out.cell 3; simp only [List.getElem?_toArray, List.getElem?_cons_zero, List.getElem?_cons_succ] at xo; have xf := HY4.out.frozen 3; have HS4 := Lib.hid (HI4.out.far (p := ⟨w.heap.size + 3, 3, none⟩) (show w.heap.size ≠ w.heap.size + 3 by omega) (.int .i64 (q4 : Nat))); have HX4 : Hid (Box (u4.setCell ⟨w.heap.size + 3, 3, none⟩ (.int .i64 (q4 : Nat))) (w.heap.size + 3) 65 #[.int .i64 (q1 : Nat), .int .i64 (q2 : Nat), .int .i64 (q3 : Nat), .int .i64 (q4 : Nat)]) := Lib.hid (HY4.out.put 3 (.int .i64 (q4 : Nat))); have HB4 := Lib.hid (HC4.out.setCell (p := ⟨w.heap.size + 3, 3, none⟩) (show w.heap.size ≤ w.heap.size + 3 by omega) (.int .i64 (q4 : Nat))); have HO0_4 := Lib.hid (HP0_4.out.far (p := ⟨w.heap.size + 3, 3, none⟩) (show w.heap.size + 1 ≠ w.heap.size + 3 by omega) (.int .i64 (q4 : Nat))); have HO1_4 := Lib.hid (HP1_4.out.far (p := ⟨w.heap.size + 3, 3, none⟩) (show w.heap.size + 2 ≠ w.heap.size + 3 by omega) (.int .i64 (q4 : Nat))); obtain ⟨e0, e1, e2, e3, e4, e5, e6⟩ := stcell (s := s4) HS4.out)
  clear d0 d1 d2 d3 d4 d5 d6 xo xf e0 e1 e2 e3 e4 e5 e6 HI4 HY4 HC4 HP0_4 HP1_4
  generalize u4.setCell ⟨w.heap.size + 3, 3, none⟩ (.int .i64 (q4 : Nat)) = V4 at *
  go_wp2_with fail
  have z0 : ∀ v, Box v (w.heap.size) 85 #[.string B, .int .i64 ((s4).p : Nat), .int .i64 ((s4).e : Nat), .int .i64 ((s4).o : Nat), .int .i64 (q4 : Nat), .string S, .bool y] ∧ Box v (w.heap.size + 3) 65 #[.int .i64 (q1 : Nat), .int .i64 (q2 : Nat), .int .i64 (q3 : Nat), .int .i64 (q4 : Nat)] → v.cell? ⟨w.heap.size, 0, none⟩ = some (.string B) := fun v h => h.1.cell 0
  have z1 : ∀ v, Box v (w.heap.size) 85 #[.string B, .int .i64 ((s4).p : Nat), .int .i64 ((s4).e : Nat), .int .i64 ((s4).o : Nat), .int .i64 (q4 : Nat), .string S, .bool y] ∧ Box v (w.heap.size + 3) 65 #[.int .i64 (q1 : Nat), .int .i64 (q2 : Nat), .int .i64 (q3 : Nat), .int .i64 (q4 : Nat)] → v.cell? ⟨w.heap.size, 1, none⟩ = some (.int .i64 ((s4).p : Nat)) := fun v h => h.1.cell 1
  have z2 : ∀ v, Box v (w.heap.size) 85 #[.string B, .int .i64 ((s4).p : Nat), .int .i64 ((s4).e : Nat), .int .i64 ((s4).o : Nat), .int .i64 (q4 : Nat), .string S, .bool y] ∧ Box v (w.heap.size + 3) 65 #[.int .i64 (q1 : Nat), .int .i64 (q2 : Nat), .int .i64 (q3 : Nat), .int .i64 (q4 : Nat)] → v.cell? ⟨w.heap.size, 2, none⟩ = some (.int .i64 ((s4).e : Nat)) := fun v h => h.1.cell 2
  have z3 : ∀ v, Box v (w.heap.size) 85 #[.string B, .int .i64 ((s4).p : Nat), .int .i64 ((s4).e : Nat), .int .i64 ((s4).o : Nat), .int .i64 (q4 : Nat), .string S, .bool y] ∧ Box v (w.heap.size + 3) 65 #[.int .i64 (q1 : Nat), .int .i64 (q2 : Nat), .int .i64 (q3 : Nat), .int .i64 (q4 : Nat)] → v.cell? ⟨w.heap.size, 3, none⟩ = some (.int .i64 ((s4).o : Nat)) := fun v h => h.1.cell 3
  have z4 : ∀ v, Box v (w.heap.size) 85 #[.string B, .int .i64 ((s4).p : Nat), .int .i64 ((s4).e : Nat), .int .i64 ((s4).o : Nat), .int .i64 (q4 : Nat), .string S, .bool y] ∧ Box v (w.heap.size + 3) 65 #[.int .i64 (q1 : Nat), .int .i64 (q2 : Nat), .int .i64 (q3 : Nat), .int .i64 (q4 : Nat)] → v.cell? ⟨w.heap.size, 4, none⟩ = some (.int .i64 (q4 : Nat)) := fun v h => h.1.cell 4
  have z5 : ∀ v, Box v (w.heap.size) 85 #[.string B, .int .i64 ((s4).p : Nat), .int .i64 ((s4).e : Nat), .int .i64 ((s4).o : Nat), .int .i64 (q4 : Nat), .string S, .bool y] ∧ Box v (w.heap.size + 3) 65 #[.int .i64 (q1 : Nat), .int .i64 (q2 : Nat), .int .i64 (q3 : Nat), .int .i64 (q4 : Nat)] → v.cell? ⟨w.heap.size, 5, none⟩ = some (.string S) := fun v h => h.1.cell 5
  have z6 : ∀ v, Box v (w.heap.size) 85 #[.string B, .int .i64 ((s4).p : Nat), .int .i64 ((s4).e : Nat), .int .i64 ((s4).o : Nat), .int .i64 (q4 : Nat), .string S, .bool y] ∧ Box v (w.heap.size + 3) 65 #[.int .i64 (q1 : Nat), .int .i64 (q2 : Nat), .int .i64 (q3 : Nat), .int .i64 (q4 : Nat)] → v.cell? ⟨w.heap.size, 6, none⟩ = some (.bool y) := fun v h => h.1.cell 6
  have y0 : ∀ v, Box v (w.heap.size) 85 #[.string B, .int .i64 ((s4).p : Nat), .int .i64 ((s4).e : Nat), .int .i64 ((s4).o : Nat), .int .i64 (q4 : Nat), .string S, .bool y] ∧ Box v (w.heap.size + 3) 65 #[.int .i64 (q1 : Nat), .int .i64 (q2 : Nat), .int .i64 (q3 : Nat), .int .i64 (q4 : Nat)] → v.cell? ⟨w.heap.size + 3, 0, none⟩ = some (.int .i64 (q1 : Nat)) := fun v h => h.2.cell 0
  have y1 : ∀ v, Box v (w.heap.size) 85 #[.string B, .int .i64 ((s4).p : Nat), .int .i64 ((s4).e : Nat), .int .i64 ((s4).o : Nat), .int .i64 (q4 : Nat), .string S, .bool y] ∧ Box v (w.heap.size + 3) 65 #[.int .i64 (q1 : Nat), .int .i64 (q2 : Nat), .int .i64 (q3 : Nat), .int .i64 (q4 : Nat)] → v.cell? ⟨w.heap.size + 3, 1, none⟩ = some (.int .i64 (q2 : Nat)) := fun v h => h.2.cell 1
  have y2 : ∀ v, Box v (w.heap.size) 85 #[.string B, .int .i64 ((s4).p : Nat), .int .i64 ((s4).e : Nat), .int .i64 ((s4).o : Nat), .int .i64 (q4 : Nat), .string S, .bool y] ∧ Box v (w.heap.size + 3) 65 #[.int .i64 (q1 : Nat), .int .i64 (q2 : Nat), .int .i64 (q3 : Nat), .int .i64 (q4 : Nat)] → v.cell? ⟨w.heap.size + 3, 2, none⟩ = some (.int .i64 (q3 : Nat)) := fun v h => h.2.cell 2
  have y3 : ∀ v, Box v (w.heap.size) 85 #[.string B, .int .i64 ((s4).p : Nat), .int .i64 ((s4).e : Nat), .int .i64 ((s4).o : Nat), .int .i64 (q4 : Nat), .string S, .bool y] ∧ Box v (w.heap.size + 3) 65 #[.int .i64 (q1 : Nat), .int .i64 (q2 : Nat), .int .i64 (q3 : Nat), .int .i64 (q4 : Nat)] → v.cell? ⟨w.heap.size + 3, 3, none⟩ = some (.int .i64 (q4 : Nat)) := fun v h => h.2.cell 3
  have hs := box_off (HO1_4.out.drewN 1) (show w.heap.size + 2 ≠ w.heap.size + 1 by omega) #[.string B, .int .i64 ((s4).p : Nat), .int .i64 ((s4).e : Nat), .int .i64 ((s4).o : Nat), .int .i64 (q4 : Nat), .string S, .bool y]
  have hA := Lib.hid (⟨HS4.out.drewN 1, HX4.out.drewN 1⟩ : (fun v => Box v (w.heap.size) 85 #[.string B, .int .i64 ((s4).p : Nat), .int .i64 ((s4).e : Nat), .int .i64 ((s4).o : Nat), .int .i64 (q4 : Nat), .string S, .bool y] ∧ Box v (w.heap.size + 3) 65 #[.int .i64 (q1 : Nat), .int .i64 (q2 : Nat), .int .i64 (q3 : Nat), .int .i64 (q4 : Nat)]) (V4.drewN 1))
  refine wp_region_held_drew (S := fun v => Box v (w.heap.size) 85 #[.string B, .int .i64 ((s4).p : Nat), .int .i64 ((s4).e : Nat), .int .i64 ((s4).o : Nat), .int .i64 (q4 : Nat), .string S, .bool y] ∧ Box v (w.heap.size + 3) 65 #[.int .i64 (q1 : Nat), .int .i64 (q2 : Nat), .int .i64 (q3 : Nat), .int .i64 (q4 : Nat)]) (by kernel_rfl) (hA.out) (fun hHeld => ?_)
  refine wpAnyH_take (i := 0) (oi := ⟨some 26, _, _, _, _, _⟩) (v := ?_) rfl (by kernel_rfl) (by kernel_rfl) (by kernel_rfl) (fun _ _ _ h => h) (Or.inl ⟨by rfl, ?_⟩) (by assumption) ?_
  rotate_left
  · (intro u hu; (try dsimp only at hu); go_simp; (try with_reducible rfl))
  (try simp only [Act.put, List.setIfInBounds_toArray, List.set_cons_zero, List.set_cons_succ])
  refine wpAnyH_take (i := 1) (oi := ⟨some 27, _, _, _, _, _⟩) (v := ?_) rfl (by kernel_rfl) (by kernel_rfl) (by kernel_rfl) (fun _ _ _ h => h) (Or.inl ⟨by rfl, ?_⟩) (by assumption) ?_
  rotate_left
  · (intro u hu; (try dsimp only at hu); go_simp; (try with_reducible rfl))
  (try simp only [Act.put, List.setIfInBounds_toArray, List.set_cons_zero, List.set_cons_succ])
  refine wpAnyH_ready (rs := [2]) (by decide +kernel) (by simp) ?_
  refine AllReadyH.cons (o := ⟨none, _, _, _, _, _⟩) rfl (fun K hK => ?_) AllReadyH.nil
  rw [if_pos (by rfl)]
  refine oper_store 85 _ _ rfl (w.heap.size + 1) 85 _ #[.string B, .int .i64 ((s4).p : Nat), .int .i64 ((s4).e : Nat), .int .i64 ((s4).o : Nat), .int .i64 (q4 : Nat), .string S, .bool y] rfl rfl (HO0_4.out.drewN 1) (size_st _ _ _ _ _ _ _) rfl (by simp [Value.oneCell']) ?_
  have hA := Lib.hid (⟨box_off hA.out.1 (show w.heap.size ≠ w.heap.size + 1 by omega) #[.string B, .int .i64 ((s4).p : Nat), .int .i64 ((s4).e : Nat), .int .i64 ((s4).o : Nat), .int .i64 (q4 : Nat), .string S, .bool y], box_off hA.out.2 (show w.heap.size + 3 ≠ w.heap.size + 1 by omega) #[.string B, .int .i64 ((s4).p : Nat), .int .i64 ((s4).e : Nat), .int .i64 ((s4).o : Nat), .int .i64 (q4 : Nat), .string S, .bool y]⟩ : (fun v => Box v (w.heap.size) 85 #[.string B, .int .i64 ((s4).p : Nat), .int .i64 ((s4).e : Nat), .int .i64 ((s4).o : Nat), .int .i64 (q4 : Nat), .string S, .bool y] ∧ Box v (w.heap.size + 3) 65 #[.int .i64 (q1 : Nat), .int .i64 (q2 : Nat), .int .i64 (q3 : Nat), .int .i64 (q4 : Nat)]) (_ : World))
  refine hK.out _ _ ?_ (fun hHeld => ?_)
  · exact hA.out
  clear hK K
  (try simp only [Act.put])
  refine wpAnyH_ready (rs := [3]) (by decide +kernel) (by simp) ?_
  refine AllReadyH.cons (o := ⟨none, _, _, _, _, _⟩) rfl (fun K hK => ?_) AllReadyH.nil
  rw [if_pos (by rfl)]
  refine oper_store 65 _ _ rfl (w.heap.size + 2) 65 _ #[.int .i64 (q1 : Nat), .int .i64 (q2 : Nat), .int .i64 (q3 : Nat), .int .i64 (q4 : Nat)] rfl rfl hs (by show (Try.prog.info? 65).map (·.size) = some 4; kernel_rfl) rfl (by simp [Value.oneCell']) ?_
  have hA := Lib.hid (⟨box_off hA.out.1 (show w.heap.size ≠ w.heap.size + 2 by omega) #[.int .i64 (q1 : Nat), .int .i64 (q2 : Nat), .int .i64 (q3 : Nat), .int .i64 (q4 : Nat)], box_off hA.out.2 (show w.heap.size + 3 ≠ w.heap.size + 2 by omega) #[.int .i64 (q1 : Nat), .int .i64 (q2 : Nat), .int .i64 (q3 : Nat), .int .i64 (q4 : Nat)]⟩ : (fun v => Box v (w.heap.size) 85 #[.string B, .int .i64 ((s4).p : Nat), .int .i64 ((s4).e : Nat), .int .i64 ((s4).o : Nat), .int .i64 (q4 : Nat), .string S, .bool y] ∧ Box v (w.heap.size + 3) 65 #[.int .i64 (q1 : Nat), .int .i64 (q2 : Nat), .int .i64 (q3 : Nat), .int .i64 (q4 : Nat)]) (_ : World))
  refine hK.out _ _ ?_ (fun hHeld => ?_)
  · exact hA.out
  clear hK K
  (try simp only [Act.put])
  refine wpAnyH_done (by kernel_rfl) ?_ _
  clear z0 z1 z2 z3 z4 z5 z6 y0 y1 y2 y3
  go_wp2_with fail
  refine bodyPost_ret (res_cc rfl _ _ (w.heap.size + 1) (w.heap.size + 2) #[.string B, .int .i64 ((s4).p : Nat), .int .i64 ((s4).e : Nat), .int .i64 ((s4).o : Nat), .int .i64 (q4 : Nat), .string S, .bool y] #[.int .i64 (q1 : Nat), .int .i64 (q2 : Nat), .int .i64 (q3 : Nat), .int .i64 (q4 : Nat)] Try.underlying85 Try.underlying65 (size_st _ _ _ _ _ _ _) (by show (Try.prog.info? 65).map (·.size) = some 4; kernel_rfl) rfl rfl (box_off (box_set (HO0_4.out.drewN 1) _) (by omega) _) (box_set hs _)) rfl ⟨⟨_, rfl⟩, ?_⟩
  exact below_putRow (below_putRow (Below.drew HB4.out) (by omega) _) (by omega) _
end Go.Proofs.Ytihkadbcjeohjaa.Co
