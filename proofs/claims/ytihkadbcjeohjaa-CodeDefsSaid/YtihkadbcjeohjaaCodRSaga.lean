/-
  The document's ReadSaga.
  Conditions: the bytes are at most 2^40.
-/
import Derived.Test.YtihkadbcjeohjaaCodRPlan
namespace Go.Proofs.Ytihkadbcjeohjaa.Co
open Go.RowKit
open Go.Proofs.Ytihkadbcjeohjaa.El
open Go.Proofs.Ytihkadbcjeohjaa.Df
open Go.Proofs.Ytihkadbcjeohjaa.Bo (P Made ret_int ret_bool)
open Go.Proofs.Ytihkadbcjeohjaa.Sa (Sg Rp)

theorem box3 (w : World) (t0 t1 t2 : TypeId) (c0 c1 c2 : Array Value) :
    Box (((w.alloc (.cells c0 t0)).alloc (.cells c1 t1)).alloc (.cells c2 t2)) w.heap.size t0 c0 ∧ Box (((w.alloc (.cells c0 t0)).alloc (.cells c1 t1)).alloc (.cells c2 t2)) (w.heap.size + 1) t1 c1 ∧
      Box (((w.alloc (.cells c0 t0)).alloc (.cells c1 t1)).alloc (.cells c2 t2)) (w.heap.size + 2) t2 c2 := by
  refine ⟨((Box.new w t0 c0).alloc _).alloc _, (box_new2 w _ t1 c1).alloc _, ?_⟩
  have := Box.new ((w.alloc (.cells c0 t0)).alloc (.cells c1 t1)) t2 c2
  simpa using this
theorem below3 (w : World) (a b c : Obj) : Below w.heap.size w (((w.alloc a).alloc b).alloc c) := (((Below.refl w.heap.size w).alloc (Nat.le_refl _) _).alloc (by simp) _).alloc (by simp; omega) _
set_option maxHeartbeats 16000000 in
set_option maxRecDepth 100000 in
theorem readSaga_s (B : ByteArray) (w : World) (hB : B.size ≤ 1099511627776) :
    Calls Try.prog 17 #[.string B] w fun e w' => e = .returned (takenV (sagaE B.data.toList) true (.agg #[.int .i64 0, .string ⟨#[]⟩, .int .i64 0, .int .i64 0, .int .i64 0, .int .i64 0, .bool false, .int .i64 0, .int .i64 0]) (.agg #[.int .i64 (sagaQ B.data.toList zeroP).id, .string (sagaQ B.data.toList zeroP).dn, .int .i64 (sagaQ B.data.toList zeroP).st, .int .i64 (sagaQ B.data.toList zeroP).ph, .int .i64 (sagaQ B.data.toList zeroP).sp, .int .i64 (sagaQ B.data.toList zeroP).tr, .bool (sagaQ B.data.toList zeroP).out, .int .i64 (sagaQ B.data.toList zeroP).at_, .int .i64 (sagaQ B.data.toList zeroP).sk])) ∧ Below w.heap.size w w' := by
  have hk := Ok.zero hB
  obtain ⟨hx0, hx1, hx2⟩ := box3 w 40 85 40 #[.int .i64 0, .string ⟨#[]⟩, .int .i64 0, .int .i64 0, .int .i64 0, .int .i64 0, .bool false, .int .i64 0, .int .i64 0] #[.string B, .int .i64 0, .int .i64 0, .int .i64 0, .int .i64 0, .string ⟨#[]⟩, .bool false] #[.int .i64 0, .string ⟨#[]⟩, .int .i64 0, .int .i64 0, .int .i64 0, .int .i64 0, .bool false, .int .i64 0, .int .i64 0]
  have HO0_0 := Lib.hid hx0
  have HS0 : Hid (Box (((w.alloc (.cells #[.int .i64 0, .string ⟨#[]⟩, .int .i64 0, .int .i64 0, .int .i64 0, .int .i64 0, .bool false, .int .i64 0, .int .i64 0] 40)).alloc (.cells #[.string B, .int .i64 0, .int .i64 0, .int .i64 0, .int .i64 0, .string ⟨#[]⟩, .bool false] 85)).alloc (.cells #[.int .i64 0, .string ⟨#[]⟩, .int .i64 0, .int .i64 0, .int .i64 0, .int .i64 0, .bool false, .int .i64 0, .int .i64 0] 40)) (w.heap.size + 1) 85 #[.string B, .int .i64 ((at0 0).p : Nat), .int .i64 ((at0 0).e : Nat), .int .i64 ((at0 0).o : Nat), .int .i64 0, .string ⟨#[]⟩, .bool false]) := Lib.hid hx1
  have HX0 := Lib.hid hx2
  have HB0 : Hid (Below w.heap.size w (((w.alloc (.cells #[.int .i64 0, .string ⟨#[]⟩, .int .i64 0, .int .i64 0, .int .i64 0, .int .i64 0, .bool false, .int .i64 0, .int .i64 0] 40)).alloc (.cells #[.string B, .int .i64 0, .int .i64 0, .int .i64 0, .int .i64 0, .string ⟨#[]⟩, .bool false] 85)).alloc (.cells #[.int .i64 0, .string ⟨#[]⟩, .int .i64 0, .int .i64 0, .int .i64 0, .int .i64 0, .bool false, .int .i64 0, .int .i64 0] 40))) := Lib.hid (below3 w _ _ _)
  clear hx0 hx1 hx2
  have HQ : Hid (sagaE B.data.toList = endS B.data.toList (sagaS B.data.toList zeroP)) := Lib.hid rfl
  obtain ⟨s1, hs1⟩ : ∃ t, t = numS B.data.toList (at0 0) := ⟨_, rfl⟩
  obtain ⟨q1, hq1⟩ : ∃ q, q = numQ B.data.toList (at0 0) := ⟨_, rfl⟩
  have HT1 : Hid (∀ W, Calls Try.prog 46 #[.agg #[.string B, .int .i64 ((at0 0).p : Nat), .int .i64 ((at0 0).e : Nat), .int .i64 ((at0 0).o : Nat), .int .i64 0, .string ⟨#[]⟩, .bool false]] W fun e w2 => e = .returned (.agg #[.string B, .int .i64 ((s1).p : Nat), .int .i64 ((s1).e : Nat), .int .i64 ((s1).o : Nat), .int .i64 (q1 : Nat), .string ⟨#[]⟩, .bool false]) ∧ Below W.heap.size W w2) := Lib.hid fun W => by rw [hs1, hq1]; exact takeN_s B (at0 0) _ _ _ W (hk)
  have ok1 : Ok B s1 := by rw [hs1]; exact Ok.num (hk)
  obtain ⟨s2, hs2⟩ : ∃ t, t = txtS B.data.toList (s1) := ⟨_, rfl⟩
  obtain ⟨q2, hq2⟩ : ∃ q, q = txtQ B.data.toList (s1) := ⟨_, rfl⟩
  have HT2 : Hid (∀ W, Calls Try.prog 47 #[.agg #[.string B, .int .i64 ((s1).p : Nat), .int .i64 ((s1).e : Nat), .int .i64 ((s1).o : Nat), .int .i64 (q1 : Nat), .string ⟨#[]⟩, .bool false], .int .i64 256] W fun e w2 => e = .returned (.agg #[.string B, .int .i64 ((s2).p : Nat), .int .i64 ((s2).e : Nat), .int .i64 ((s2).o : Nat), .int .i64 (q1 : Nat), .string q2, .bool false]) ∧ Below W.heap.size W w2) := Lib.hid fun W => by rw [hs2, hq2]; exact textS_s B (s1) _ _ _ W (ok1)
  have ok2 : Ok B s2 := by rw [hs2]; exact Ok.txt (ok1)
  obtain ⟨s3, hs3⟩ : ∃ t, t = numS B.data.toList (s2) := ⟨_, rfl⟩
  obtain ⟨q3, hq3⟩ : ∃ q, q = numQ B.data.toList (s2) := ⟨_, rfl⟩
  have HT3 : Hid (∀ W, Calls Try.prog 46 #[.agg #[.string B, .int .i64 ((s2).p : Nat), .int .i64 ((s2).e : Nat), .int .i64 ((s2).o : Nat), .int .i64 (q1 : Nat), .string q2, .bool false]] W fun e w2 => e = .returned (.agg #[.string B, .int .i64 ((s3).p : Nat), .int .i64 ((s3).e : Nat), .int .i64 ((s3).o : Nat), .int .i64 (q3 : Nat), .string q2, .bool false]) ∧ Below W.heap.size W w2) := Lib.hid fun W => by rw [hs3, hq3]; exact takeN_s B (s2) _ _ _ W (ok2)
  have ok3 : Ok B s3 := by rw [hs3]; exact Ok.num (ok2)
  obtain ⟨s4, hs4⟩ : ∃ t, t = numS B.data.toList (s3) := ⟨_, rfl⟩
  obtain ⟨q4, hq4⟩ : ∃ q, q = numQ B.data.toList (s3) := ⟨_, rfl⟩
  have HT4 : Hid (∀ W, Calls Try.prog 46 #[.agg #[.string B, .int .i64 ((s3).p : Nat), .int .i64 ((s3).e : Nat), .int .i64 ((s3).o : Nat), .int .i64 (q3 : Nat), .string q2, .bool false]] W fun e w2 => e = .returned (.agg #[.string B, .int .i64 ((s4).p : Nat), .int .i64 ((s4).e : Nat), .int .i64 ((s4).o : Nat), .int .i64 (q4 : Nat), .string q2, .bool false]) ∧ Below W.heap.size W w2) := Lib.hid fun W => by rw [hs4, hq4]; exact takeN_s B (s3) _ _ _ W (ok3)
  have ok4 : Ok B s4 := by rw [hs4]; exact Ok.num (ok3)
  obtain ⟨s5, hs5⟩ : ∃ t, t = numS B.data.toList (s4) := ⟨_, rfl⟩
  obtain ⟨q5, hq5⟩ : ∃ q, q = numQ B.data.toList (s4) := ⟨_, rfl⟩
  have HT5 : Hid (∀ W, Calls Try.prog 46 #[.agg #[.string B, .int .i64 ((s4).p : Nat), .int .i64 ((s4).e : Nat), .int .i64 ((s4).o : Nat), .int .i64 (q4 : Nat), .string q2, .bool false]] W fun e w2 => e = .returned (.agg #[.string B, .int .i64 ((s5).p : Nat), .int .i64 ((s5).e : Nat), .int .i64 ((s5).o : Nat), .int .i64 (q5 : Nat), .string q2, .bool false]) ∧ Below W.heap.size W w2) := Lib.hid fun W => by rw [hs5, hq5]; exact takeN_s B (s4) _ _ _ W (ok4)
  have ok5 : Ok B s5 := by rw [hs5]; exact Ok.num (ok4)
  obtain ⟨s6, hs6⟩ : ∃ t, t = numS B.data.toList (s5) := ⟨_, rfl⟩
  obtain ⟨q6, hq6⟩ : ∃ q, q = numQ B.data.toList (s5) := ⟨_, rfl⟩
  have HT6 : Hid (∀ W, Calls Try.prog 46 #[.agg #[.string B, .int .i64 ((s5).p : Nat), .int .i64 ((s5).e : Nat), .int .i64 ((s5).o : Nat), .int .i64 (q5 : Nat), .string q2, .bool false]] W fun e w2 => e = .returned (.agg #[.string B, .int .i64 ((s6).p : Nat), .int .i64 ((s6).e : Nat), .int .i64 ((s6).o : Nat), .int .i64 (q6 : Nat), .string q2, .bool false]) ∧ Below W.heap.size W w2) := Lib.hid fun W => by rw [hs6, hq6]; exact takeN_s B (s5) _ _ _ W (ok5)
  have ok6 : Ok B s6 := by rw [hs6]; exact Ok.num (ok5)
  obtain ⟨s7, hs7⟩ : ∃ t, t = flgS B.data.toList (s6) := ⟨_, rfl⟩
  obtain ⟨q7, hq7⟩ : ∃ q, q = flgQ B.data.toList (s6) := ⟨_, rfl⟩
  have HT7 : Hid (∀ W, Calls Try.prog 48 #[.agg #[.string B, .int .i64 ((s6).p : Nat), .int .i64 ((s6).e : Nat), .int .i64 ((s6).o : Nat), .int .i64 (q6 : Nat), .string q2, .bool false]] W fun e w2 => e = .returned (.agg #[.string B, .int .i64 ((s7).p : Nat), .int .i64 ((s7).e : Nat), .int .i64 ((s7).o : Nat), .int .i64 (q6 : Nat), .string q2, .bool q7]) ∧ Below W.heap.size W w2) := Lib.hid fun W => by rw [hs7, hq7]; exact flagY_s B (s6) _ _ _ W (ok6)
  have ok7 : Ok B s7 := by rw [hs7]; exact Ok.flg (ok6)
  obtain ⟨s8, hs8⟩ : ∃ t, t = numS B.data.toList (s7) := ⟨_, rfl⟩
  obtain ⟨q8, hq8⟩ : ∃ q, q = numQ B.data.toList (s7) := ⟨_, rfl⟩
  have HT8 : Hid (∀ W, Calls Try.prog 46 #[.agg #[.string B, .int .i64 ((s7).p : Nat), .int .i64 ((s7).e : Nat), .int .i64 ((s7).o : Nat), .int .i64 (q6 : Nat), .string q2, .bool q7]] W fun e w2 => e = .returned (.agg #[.string B, .int .i64 ((s8).p : Nat), .int .i64 ((s8).e : Nat), .int .i64 ((s8).o : Nat), .int .i64 (q8 : Nat), .string q2, .bool q7]) ∧ Below W.heap.size W w2) := Lib.hid fun W => by rw [hs8, hq8]; exact takeN_s B (s7) _ _ _ W (ok7)
  have ok8 : Ok B s8 := by rw [hs8]; exact Ok.num (ok7)
  obtain ⟨s9, hs9⟩ : ∃ t, t = numS B.data.toList (s8) := ⟨_, rfl⟩
  obtain ⟨q9, hq9⟩ : ∃ q, q = numQ B.data.toList (s8) := ⟨_, rfl⟩
  have HT9 : Hid (∀ W, Calls Try.prog 46 #[.agg #[.string B, .int .i64 ((s8).p : Nat), .int .i64 ((s8).e : Nat), .int .i64 ((s8).o : Nat), .int .i64 (q8 : Nat), .string q2, .bool q7]] W fun e w2 => e = .returned (.agg #[.string B, .int .i64 ((s9).p : Nat), .int .i64 ((s9).e : Nat), .int .i64 ((s9).o : Nat), .int .i64 (q9 : Nat), .string q2, .bool q7]) ∧ Below W.heap.size W w2) := Lib.hid fun W => by rw [hs9, hq9]; exact takeN_s B (s8) _ _ _ W (ok8)
  have ok9 : Ok B s9 := by rw [hs9]; exact Ok.num (ok8)
  have HG : Hid (sagaS B.data.toList zeroP = s9 ∧ sagaQ B.data.toList zeroP = ⟨q1, q2, q3, q4, q5, q6, q7, q8, q9⟩) := Lib.hid (by subst_vars; exact ⟨rfl, rfl⟩)
  have Hok9 := Lib.hid ok9
  clear ok9 hs9 hq9
  have Hok8 := Lib.hid ok8
  clear ok8 hs8 hq8
  have Hok7 := Lib.hid ok7
  clear ok7 hs7 hq7
  have Hok6 := Lib.hid ok6
  clear ok6 hs6 hq6
  have Hok5 := Lib.hid ok5
  clear ok5 hs5 hq5
  have Hok4 := Lib.hid ok4
  clear ok4 hs4 hq4
  have Hok3 := Lib.hid ok3
  clear ok3 hs3 hq3
  have Hok2 := Lib.hid ok2
  clear ok2 hs2 hq2
  have Hok1 := Lib.hid ok1
  clear ok1 hs1 hq1
  rw [HQ.out, HG.out.1, HG.out.2]
  obtain ⟨T, hT⟩ : ∃ T, T = endS B.data.toList s9 := ⟨_, rfl⟩
  rw [← hT]
  obtain ⟨ans, hans⟩ : ∃ ans, ans = takenV T true (.agg #[.int .i64 0, .string ⟨#[]⟩, .int .i64 0, .int .i64 0, .int .i64 0, .int .i64 0, .bool false, .int .i64 0, .int .i64 0]) (.agg #[.int .i64 (q1 : Nat), .string (q2), .int .i64 (q3 : Nat), .int .i64 (q4 : Nat), .int .i64 (q5 : Nat), .int .i64 (q6 : Nat), .bool (q7), .int .i64 (q8 : Nat), .int .i64 (q9 : Nat)]) := ⟨_, rfl⟩
  rw [show takenV T true (.agg #[.int .i64 0, .string ⟨#[]⟩, .int .i64 0, .int .i64 0, .int .i64 0, .int .i64 0, .bool false, .int .i64 0, .int .i64 0]) (.agg #[.int .i64 (q1 : Nat), .string (q2), .int .i64 (q3 : Nat), .int .i64 (q4 : Nat), .int .i64 (q5 : Nat), .int .i64 (q6 : Nat), .bool (q7), .int .i64 (q8 : Nat), .int .i64 (q9 : Nat)]) = ans from hans.symm]
  have HA := Lib.hid hans
  have HTe : Hid (∀ W, Calls Try.prog 36 #[.agg #[.string B, .int .i64 ((s9).p : Nat), .int .i64 ((s9).e : Nat), .int .i64 ((s9).o : Nat), .int .i64 (q9 : Nat), .string q2, .bool q7]] W fun e w2 => e = .returned (.agg #[.string B, .int .i64 ((T).p : Nat), .int .i64 ((T).e : Nat), .int .i64 ((T).o : Nat), .int .i64 (q9 : Nat), .string q2, .bool q7]) ∧ Below W.heap.size W w2) := Lib.hid fun W => by rw [hT]; exact endR_s B s9 _ _ _ W Hok9.out
  clear HQ HG hk hT hans
  go_enter Try.func17, Try.ntmps17
  go_upto_region 3 with fail
  generalize ((w.alloc (.cells #[.int .i64 0, .string ⟨#[]⟩, .int .i64 0, .int .i64 0, .int .i64 0, .int .i64 0, .bool false, .int .i64 0, .int .i64 0] 40)).alloc (.cells #[.string B, .int .i64 0, .int .i64 0, .int .i64 0, .int .i64 0, .string ⟨#[]⟩, .bool false] 85)).alloc (.cells #[.int .i64 0, .string ⟨#[]⟩, .int .i64 0, .int .i64 0, .int .i64 0, .int .i64 0, .bool false, .int .i64 0, .int .i64 0] 40) = W0 at *
  obtain ⟨e0, e1, e2, e3, e4, e5, e6⟩ := stcell (s := at0 0) HS0.out
  go_wp2_with fail
  refine (HT1.out _).mono ?_
  rintro e w1 ⟨rfl, hb⟩
  have HR1 := Lib.hid (HS0.out.below hb HS0.out.lt)
  have HU1 := Lib.hid (HX0.out.below hb HX0.out.lt)
  have HD1 := Lib.hid (HB0.out.trans (hb.mono HB0.out.size))
  have HV0_1 := Lib.hid (HO0_0.out.below hb HO0_0.out.lt)
  clear hb HS0 HX0 HB0 HO0_0 HT1
  clear e0 e1 e2 e3 e4 e5 e6
  go_wp2_with (refine wpList_store_row rfl 85 (.tmp 5) (.tmp 11) rfl (w.heap.size + 1) 85 _ #[.string B, .int .i64 ((s1).p : Nat), .int .i64 ((s1).e : Nat), .int .i64 ((s1).o : Nat), .int .i64 (q1 : Nat), .string ⟨#[]⟩, .bool false] rfl rfl HR1.out (size_st _ _ _ _ _ _ _) rfl (by simp [Value.oneCell']) ?_; have HI1 := Lib.hid (box_set HR1.out #[.string B, .int .i64 ((s1).p : Nat), .int .i64 ((s1).e : Nat), .int .i64 ((s1).o : Nat), .int .i64 (q1 : Nat), .string ⟨#[]⟩, .bool false]); have HY1 := Lib.hid (box_off HU1.out (show w.heap.size + 2 ≠ w.heap.size + 1 by omega) #[.string B, .int .i64 ((s1).p : Nat), .int .i64 ((s1).e : Nat), .int .i64 ((s1).o : Nat), .int .i64 (q1 : Nat), .string ⟨#[]⟩, .bool false]); have HC1 := Lib.hid (below_putRow HD1.out (show w.heap.size ≤ w.heap.size + 1 by omega) #[.string B, .int .i64 ((s1).p : Nat), .int .i64 ((s1).e : Nat), .int .i64 ((s1).o : Nat), .int .i64 (q1 : Nat), .string ⟨#[]⟩, .bool false]); have HP0_1 := Lib.hid (box_off HV0_1.out (show w.heap.size ≠ w.heap.size + 1 by omega) #[.string B, .int .i64 ((s1).p : Nat), .int .i64 ((s1).e : Nat), .int .i64 ((s1).o : Nat), .int .i64 (q1 : Nat), .string ⟨#[]⟩, .bool false]); clear HR1 HU1 HD1 HV0_1; generalize w1.setRow (w.heap.size + 1) #[.string B, .int .i64 ((s1).p : Nat), .int .i64 ((s1).e : Nat), .int .i64 ((s1).o : Nat), .int .i64 (q1 : Nat), .string ⟨#[]⟩, .bool false] = u1 at *; obtain ⟨d0, d1, d2, d3, d4, d5, d6⟩ := stcell (s := s1) HI1.out; have xo := HY1.out.cell 0; simp only [List.getElem?_toArray, List.getElem?_cons_zero] at xo; have xf := HY1.out.frozen 0; have HS1 := Lib.hid (HI1.out.far (p := ⟨w.heap.size + 2, 0, none⟩) (show w.heap.size + 1 ≠ w.heap.size + 2 by omega) (.int .i64 (q1 : Nat))); have HX1 : Hid (Box (u1.setCell ⟨w.heap.size + 2, 0, none⟩ (.int .i64 (q1 : Nat))) (w.heap.size + 2) 40 #[.int .i64 (q1 : Nat), .string ⟨#[]⟩, .int .i64 0, .int .i64 0, .int .i64 0, .int .i64 0, .bool false, .int .i64 0, .int .i64 0]) := Lib.hid (HY1.out.put 0 (.int .i64 (q1 : Nat))); have HB1 := Lib.hid (HC1.out.setCell (p := ⟨w.heap.size + 2, 0, none⟩) (show w.heap.size ≤ w.heap.size + 2 by omega) (.int .i64 (q1 : Nat))); have HO0_1 := Lib.hid (HP0_1.out.far (p := ⟨w.heap.size + 2, 0, none⟩) (show w.heap.size ≠ w.heap.size + 2 by omega) (.int .i64 (q1 : Nat))); obtain ⟨e0, e1, e2, e3, e4, e5, e6⟩ := stcell (s := s1) HS1.out)
  clear d0 d1 d2 d3 d4 d5 d6 xo xf e0 e1 e2 e3 e4 e5 e6 HI1 HY1 HC1 HP0_1
  generalize u1.setCell ⟨w.heap.size + 2, 0, none⟩ (.int .i64 (q1 : Nat)) = V1 at *
  refine (HT2.out _).mono ?_
  rintro e w2 ⟨rfl, hb⟩
  have HR2 := Lib.hid (HS1.out.below hb HS1.out.lt)
  have HU2 := Lib.hid (HX1.out.below hb HX1.out.lt)
  have HD2 := Lib.hid (HB1.out.trans (hb.mono HB1.out.size))
  have HV0_2 := Lib.hid (HO0_1.out.below hb HO0_1.out.lt)
  clear hb HS1 HX1 HB1 HO0_1 HT2
  go_wp2_with (refine wpList_store_row rfl 85 (.tmp 5) (.tmp 16) rfl (w.heap.size + 1) 85 _ #[.string B, .int .i64 ((s2).p : Nat), .int .i64 ((s2).e : Nat), .int .i64 ((s2).o : Nat), .int .i64 (q1 : Nat), .string q2, .bool false] rfl rfl HR2.out (size_st _ _ _ _ _ _ _) rfl (by simp [Value.oneCell']) ?_; have HI2 := Lib.hid (box_set HR2.out #[.string B, .int .i64 ((s2).p : Nat), .int .i64 ((s2).e : Nat), .int .i64 ((s2).o : Nat), .int .i64 (q1 : Nat), .string q2, .bool false]); have HY2 := Lib.hid (box_off HU2.out (show w.heap.size + 2 ≠ w.heap.size + 1 by omega) #[.string B, .int .i64 ((s2).p : Nat), .int .i64 ((s2).e : Nat), .int .i64 ((s2).o : Nat), .int .i64 (q1 : Nat), .string q2, .bool false]); have HC2 := Lib.hid (below_putRow HD2.out (show w.heap.size ≤ w.heap.size + 1 by omega) #[.string B, .int .i64 ((s2).p : Nat), .int .i64 ((s2).e : Nat), .int .i64 ((s2).o : Nat), .int .i64 (q1 : Nat), .string q2, .bool false]); have HP0_2 := Lib.hid (box_off HV0_2.out (show w.heap.size ≠ w.heap.size + 1 by omega) #[.string B, .int .i64 ((s2).p : Nat), .int .i64 ((s2).e : Nat), .int .i64 ((s2).o : Nat), .int .i64 (q1 : Nat), .string q2, .bool false]); clear HR2 HU2 HD2 HV0_2; generalize w2.setRow (w.heap.size + 1) #[.string B, .int .i64 ((s2).p : Nat), .int .i64 ((s2).e : Nat), .int .i64 ((s2).o : Nat), .int .i64 (q1 : Nat), .string q2, .bool false] = u2 at *; obtain ⟨d0, d1, d2, d3, d4, d5, d6⟩ := stcell (s := s2) HI2.out; have xo := HY2.out.cell 1; simp only [List.getElem?_toArray, List.getElem?_cons_zero, List.getElem?_cons_succ] at xo; have xf := HY2.out.frozen 1; have HS2 := Lib.hid (HI2.out.far (p := ⟨w.heap.size + 2, 1, none⟩) (show w.heap.size + 1 ≠ w.heap.size + 2 by omega) (.string (q2))); have HX2 : Hid (Box (u2.setCell ⟨w.heap.size + 2, 1, none⟩ (.string (q2))) (w.heap.size + 2) 40 #[.int .i64 (q1 : Nat), .string (q2), .int .i64 0, .int .i64 0, .int .i64 0, .int .i64 0, .bool false, .int .i64 0, .int .i64 0]) := Lib.hid (HY2.out.put 1 (.string (q2))); have HB2 := Lib.hid (HC2.out.setCell (p := ⟨w.heap.size + 2, 1, none⟩) (show w.heap.size ≤ w.heap.size + 2 by omega) (.string (q2))); have HO0_2 := Lib.hid (HP0_2.out.far (p := ⟨w.heap.size + 2, 1, none⟩) (show w.heap.size ≠ w.heap.size + 2 by omega) (.string (q2))); obtain ⟨e0, e1, e2, e3, e4, e5, e6⟩ := stcell (s := s2) HS2.out)
  clear d0 d1 d2 d3 d4 d5 d6 xo xf e0 e1 e2 e3 e4 e5 e6 HI2 HY2 HC2 HP0_2
  generalize u2.setCell ⟨w.heap.size + 2, 1, none⟩ (.string (q2)) = V2 at *
  refine (HT3.out _).mono ?_
  rintro e w3 ⟨rfl, hb⟩
  have HR3 := Lib.hid (HS2.out.below hb HS2.out.lt)
  have HU3 := Lib.hid (HX2.out.below hb HX2.out.lt)
  have HD3 := Lib.hid (HB2.out.trans (hb.mono HB2.out.size))
  have HV0_3 := Lib.hid (HO0_2.out.below hb HO0_2.out.lt)
  clear hb HS2 HX2 HB2 HO0_2 HT3
  go_wp2_with (refine wpList_store_row rfl 85 (.tmp 5) (.tmp 21) rfl (w.heap.size + 1) 85 _ #[.string B, .int .i64 ((s3).p : Nat), .int .i64 ((s3).e : Nat), .int .i64 ((s3).o : Nat), .int .i64 (q3 : Nat), .string q2, .bool false] rfl rfl HR3.out (size_st _ _ _ _ _ _ _) rfl (by simp [Value.oneCell']) ?_; have HI3 := Lib.hid (box_set HR3.out #[.string B, .int .i64 ((s3).p : Nat), .int .i64 ((s3).e : Nat), .int .i64 ((s3).o : Nat), .int .i64 (q3 : Nat), .string q2, .bool false]); have HY3 := Lib.hid (box_off HU3.out (show w.heap.size + 2 ≠ w.heap.size + 1 by omega) #[.string B, .int .i64 ((s3).p : Nat), .int .i64 ((s3).e : Nat), .int .i64 ((s3).o : Nat), .int .i64 (q3 : Nat), .string q2, .bool false]); have HC3 := Lib.hid (below_putRow HD3.out (show w.heap.size ≤ w.heap.size + 1 by omega) #[.string B, .int .i64 ((s3).p : Nat), .int .i64 ((s3).e : Nat), .int .i64 ((s3).o : Nat), .int .i64 (q3 : Nat), .string q2, .bool false]); have HP0_3 := Lib.hid (box_off HV0_3.out (show w.heap.size ≠ w.heap.size + 1 by omega) #[.string B, .int .i64 ((s3).p : Nat), .int .i64 ((s3).e : Nat), .int .i64 ((s3).o : Nat), .int .i64 (q3 : Nat), .string q2, .bool false]); clear HR3 HU3 HD3 HV0_3; generalize w3.setRow (w.heap.size + 1) #[.string B, .int .i64 ((s3).p : Nat), .int .i64 ((s3).e : Nat), .int .i64 ((s3).o : Nat), .int .i64 (q3 : Nat), .string q2, .bool false] = u3 at *; obtain ⟨d0, d1, d2, d3, d4, d5, d6⟩ := stcell (s := s3) HI3.out; have xo := HY3.out.cell 2; simp only [List.getElem?_toArray, List.getElem?_cons_zero, List.getElem?_cons_succ] at xo; have xf := HY3.out.frozen 2; have HS3 := Lib.hid (HI3.out.far (p := ⟨w.heap.size + 2, 2, none⟩) (show w.heap.size + 1 ≠ w.heap.size + 2 by omega) (.int .i64 (q3 : Nat))); have HX3 : Hid (Box (u3.setCell ⟨w.heap.size + 2, 2, none⟩ (.int .i64 (q3 : Nat))) (w.heap.size + 2) 40 #[.int .i64 (q1 : Nat), .string (q2), .int .i64 (q3 : Nat), .int .i64 0, .int .i64 0, .int .i64 0, .bool false, .int .i64 0, .int .i64 0]) := Lib.hid (HY3.out.put 2 (.int .i64 (q3 : Nat))); have HB3 := Lib.hid (HC3.out.setCell (p := ⟨w.heap.size + 2, 2, none⟩) (show w.heap.size ≤ w.heap.size + 2 by omega) (.int .i64 (q3 : Nat))); have HO0_3 := Lib.hid (HP0_3.out.far (p := ⟨w.heap.size + 2, 2, none⟩) (show w.heap.size ≠ w.heap.size + 2 by omega) (.int .i64 (q3 : Nat))); obtain ⟨e0, e1, e2, e3, e4, e5, e6⟩ := stcell (s := s3) HS3.out)
  clear d0 d1 d2 d3 d4 d5 d6 xo xf e0 e1 e2 e3 e4 e5 e6 HI3 HY3 HC3 HP0_3
  generalize u3.setCell ⟨w.heap.size + 2, 2, none⟩ (.int .i64 (q3 : Nat)) = V3 at *
  refine (HT4.out _).mono ?_
  rintro e w4 ⟨rfl, hb⟩
  have HR4 := Lib.hid (HS3.out.below hb HS3.out.lt)
  have HU4 := Lib.hid (HX3.out.below hb HX3.out.lt)
  have HD4 := Lib.hid (HB3.out.trans (hb.mono HB3.out.size))
  have HV0_4 := Lib.hid (HO0_3.out.below hb HO0_3.out.lt)
  clear hb HS3 HX3 HB3 HO0_3 HT4
  go_wp2_with (refine wpList_store_row rfl 85 (.tmp 5) (.tmp 26) rfl (w.heap.size + 1) 85 _ #[.string B, .int .i64 ((s4).p : Nat), .int .i64 ((s4).e : Nat), .int .i64 ((s4).o : Nat), .int .i64 (q4 : Nat), .string q2, .bool false] rfl rfl HR4.out (size_st _ _ _ _ _ _ _) rfl (by simp [Value.oneCell']) ?_; have HI4 := Lib.hid (box_set HR4.out #[.string B, .int .i64 ((s4).p : Nat), .int .i64 ((s4).e : Nat), .int .i64 ((s4).o : Nat), .int .i64 (q4 : Nat), .string q2, .bool false]); have HY4 := Lib.hid (box_off HU4.out (show w.heap.size + 2 ≠ w.heap.size + 1 by omega) #[.string B, .int .i64 ((s4).p : Nat), .int .i64 ((s4).e : Nat), .int .i64 ((s4).o : Nat), .int .i64 (q4 : Nat), .string q2, .bool false]); have HC4 := Lib.hid (below_putRow HD4.out (show w.heap.size ≤ w.heap.size + 1 by omega) #[.string B, .int .i64 ((s4).p : Nat), .int .i64 ((s4).e : Nat), .int .i64 ((s4).o : Nat), .int .i64 (q4 : Nat), .string q2, .bool false]); have HP0_4 := Lib.hid (box_off HV0_4.out (show w.heap.size ≠ w.heap.size + 1 by omega) #[.string B, .int .i64 ((s4).p : Nat), .int .i64 ((s4).e : Nat), .int .i64 ((s4).o : Nat), .int .i64 (q4 : Nat), .string q2, .bool false]); clear HR4 HU4 HD4 HV0_4; generalize w4.setRow (w.heap.size + 1) #[.string B, .int .i64 ((s4).p : Nat), .int .i64 ((s4).e : Nat), .int .i64 ((s4).o : Nat), .int .i64 (q4 : Nat), .string q2, .bool false] = u4 at *; obtain ⟨d0, d1, d2, d3, d4, d5, d6⟩ := stcell (s := s4) HI4.out; have xo := HY4.out.cell 3; simp only [List.getElem?_toArray, List.getElem?_cons_zero, List.getElem?_cons_succ] at xo; have xf := HY4.out.frozen 3; have HS4 := Lib.hid (HI4.out.far (p := ⟨w.heap.size + 2, 3, none⟩) (show w.heap.size + 1 ≠ w.heap.size + 2 by omega) (.int .i64 (q4 : Nat))); have HX4 : Hid (Box (u4.setCell ⟨w.heap.size + 2, 3, none⟩ (.int .i64 (q4 : Nat))) (w.heap.size + 2) 40 #[.int .i64 (q1 : Nat), .string (q2), .int .i64 (q3 : Nat), .int .i64 (q4 : Nat), .int .i64 0, .int .i64 0, .bool false, .int .i64 0, .int .i64 0]) := Lib.hid (HY4.out.put 3 (.int .i64 (q4 : Nat))); have HB4 := Lib.hid (HC4.out.setCell (p := ⟨w.heap.size + 2, 3, none⟩) (show w.heap.size ≤ w.heap.size + 2 by omega) (.int .i64 (q4 : Nat))); have HO0_4 := Lib.hid (HP0_4.out.far (p := ⟨w.heap.size + 2, 3, none⟩) (show w.heap.size ≠ w.heap.size + 2 by omega) (.int .i64 (q4 : Nat))); obtain ⟨e0, e1, e2, e3, e4, e5, e6⟩ := stcell (s := s4) HS4.out)
  clear d0 d1 d2 d3 d4 d5 d6 xo xf e0 e1 e2 e3 e4 e5 e6 HI4 HY4 HC4 HP0_4
  generalize u4.setCell ⟨w.heap.size + 2, 3, none⟩ (.int .i64 (q4 : Nat)) = V4 at *
  refine (HT5.out _).mono ?_
  rintro e w5 ⟨rfl, hb⟩
  have HR5 := Lib.hid (HS4.out.below hb HS4.out.lt)
  have HU5 := Lib.hid (HX4.out.below hb HX4.out.lt)
  have HD5 := Lib.hid (HB4.out.trans (hb.mono HB4.out.size))
  have HV0_5 := Lib.hid (HO0_4.out.below hb HO0_4.out.lt)
  clear hb HS4 HX4 HB4 HO0_4 HT5
  go_wp2_with (refine wpList_store_row rfl 85 (.tmp 5) (.tmp 31) rfl (w.heap.size + 1) 85 _ #[.string B, .int .i64 ((s5).p : Nat), .int .i64 ((s5).e : Nat), .int .i64 ((s5).o : Nat), .int .i64 (q5 : Nat), .string q2, .bool false] rfl rfl HR5.out (size_st _ _ _ _ _ _ _) rfl (by simp [Value.oneCell']) ?_; have HI5 := Lib.hid (box_set HR5.out #[.string B, .int .i64 ((s5).p : Nat), .int .i64 ((s5).e : Nat), .int .i64 ((s5).o : Nat), .int .i64 (q5 : Nat), .string q2, .bool false]); have HY5 := Lib.hid (box_off HU5.out (show w.heap.size + 2 ≠ w.heap.size + 1 by omega) #[.string B, .int .i64 ((s5).p : Nat), .int .i64 ((s5).e : Nat), .int .i64 ((s5).o : Nat), .int .i64 (q5 : Nat), .string q2, .bool false]); have HC5 := Lib.hid (below_putRow HD5.out (show w.heap.size ≤ w.heap.size + 1 by omega) #[.string B, .int .i64 ((s5).p : Nat), .int .i64 ((s5).e : Nat), .int .i64 ((s5).o : Nat), .int .i64 (q5 : Nat), .string q2, .bool false]); have HP0_5 := Lib.hid (box_off HV0_5.out (show w.heap.size ≠ w.heap.size + 1 by omega) #[.string B, .int .i64 ((s5).p : Nat), .int .i64 ((s5).e : Nat), .int .i64 ((s5).o : Nat), .int .i64 (q5 : Nat), .string q2, .bool false]); clear HR5 HU5 HD5 HV0_5; generalize w5.setRow (w.heap.size + 1) #[.string B, .int .i64 ((s5).p : Nat), .int .i64 ((s5).e : Nat), .int .i64 ((s5).o : Nat), .int .i64 (q5 : Nat), .string q2, .bool false] = u5 at *; obtain ⟨d0, d1, d2, d3, d4, d5, d6⟩ := stcell (s := s5) HI5.out; have xo := HY5.out.cell 4; simp only [List.getElem?_toArray, List.getElem?_cons_zero, List.getElem?_cons_succ] at xo; have xf := HY5.out.frozen 4; have HS5 := Lib.hid (HI5.out.far (p := ⟨w.heap.size + 2, 4, none⟩) (show w.heap.size + 1 ≠ w.heap.size + 2 by omega) (.int .i64 (q5 : Nat))); have HX5 : Hid (Box (u5.setCell ⟨w.heap.size + 2, 4, none⟩ (.int .i64 (q5 : Nat))) (w.heap.size + 2) 40 #[.int .i64 (q1 : Nat), .string (q2), .int .i64 (q3 : Nat), .int .i64 (q4 : Nat), .int .i64 (q5 : Nat), .int .i64 0, .bool false, .int .i64 0, .int .i64 0]) := Lib.hid (HY5.out.put 4 (.int .i64 (q5 : Nat))); have HB5 := Lib.hid (HC5.out.setCell (p := ⟨w.heap.size + 2, 4, none⟩) (show w.heap.size ≤ w.heap.size + 2 by omega) (.int .i64 (q5 : Nat))); have HO0_5 := Lib.hid (HP0_5.out.far (p := ⟨w.heap.size + 2, 4, none⟩) (show w.heap.size ≠ w.heap.size + 2 by omega) (.int .i64 (q5 : Nat))); obtain ⟨e0, e1, e2, e3, e4, e5, e6⟩ := stcell (s := s5) HS5.out)
  clear d0 d1 d2 d3 d4 d5 d6 xo xf e0 e1 e2 e3 e4 e5 e6 HI5 HY5 HC5 HP0_5
  generalize u5.setCell ⟨w.heap.size + 2, 4, none⟩ (.int .i64 (q5 : Nat)) = V5 at *
  refine (HT6.out _).mono ?_
  rintro e w6 ⟨rfl, hb⟩
  have HR6 := Lib.hid (HS5.out.below hb HS5.out.lt)
  have HU6 := Lib.hid (HX5.out.below hb HX5.out.lt)
  have HD6 := Lib.hid (HB5.out.trans (hb.mono HB5.out.size))
  have HV0_6 := Lib.hid (HO0_5.out.below hb HO0_5.out.lt)
  clear hb HS5 HX5 HB5 HO0_5 HT6
  go_wp2_with (refine wpList_store_row rfl 85 (.tmp 5) (.tmp 36) rfl (w.heap.size + 1) 85 _ #[.string B, .int .i64 ((s6).p : Nat), .int .i64 ((s6).e : Nat), .int .i64 ((s6).o : Nat), .int .i64 (q6 : Nat), .string q2, .bool false] rfl rfl HR6.out (size_st _ _ _ _ _ _ _) rfl (by simp [Value.oneCell']) ?_; have HI6 := Lib.hid (box_set HR6.out #[.string B, .int .i64 ((s6).p : Nat), .int .i64 ((s6).e : Nat), .int .i64 ((s6).o : Nat), .int .i64 (q6 : Nat), .string q2, .bool false]); have HY6 := Lib.hid (box_off HU6.out (show w.heap.size + 2 ≠ w.heap.size + 1 by omega) #[.string B, .int .i64 ((s6).p : Nat), .int .i64 ((s6).e : Nat), .int .i64 ((s6).o : Nat), .int .i64 (q6 : Nat), .string q2, .bool false]); have HC6 := Lib.hid (below_putRow HD6.out (show w.heap.size ≤ w.heap.size + 1 by omega) #[.string B, .int .i64 ((s6).p : Nat), .int .i64 ((s6).e : Nat), .int .i64 ((s6).o : Nat), .int .i64 (q6 : Nat), .string q2, .bool false]); have HP0_6 := Lib.hid (box_off HV0_6.out (show w.heap.size ≠ w.heap.size + 1 by omega) #[.string B, .int .i64 ((s6).p : Nat), .int .i64 ((s6).e : Nat), .int .i64 ((s6).o : Nat), .int .i64 (q6 : Nat), .string q2, .bool false]); clear HR6 HU6 HD6 HV0_6; generalize w6.setRow (w.heap.size + 1) #[.string B, .int .i64 ((s6).p : Nat), .int .i64 ((s6).e : Nat), .int .i64 ((s6).o : Nat), .int .i64 (q6 : Nat), .string q2, .bool false] = u6 at *; obtain ⟨d0, d1, d2, d3, d4, d5, d6⟩ := stcell (s := s6) HI6.out; have xo := HY6.out.cell 5; simp only [List.getElem?_toArray, List.getElem?_cons_zero, List.getElem?_cons_succ] at xo; have xf := HY6.out.frozen 5; have HS6 := Lib.hid (HI6.out.far (p := ⟨w.heap.size + 2, 5, none⟩) (show w.heap.size + 1 ≠ w.heap.size + 2 by omega) (.int .i64 (q6 : Nat))); have HX6 : Hid (Box (u6.setCell ⟨w.heap.size + 2, 5, none⟩ (.int .i64 (q6 : Nat))) (w.heap.size + 2) 40 #[.int .i64 (q1 : Nat), .string (q2), .int .i64 (q3 : Nat), .int .i64 (q4 : Nat), .int .i64 (q5 : Nat), .int .i64 (q6 : Nat), .bool false, .int .i64 0, .int .i64 0]) := Lib.hid (HY6.out.put 5 (.int .i64 (q6 : Nat))); have HB6 := Lib.hid (HC6.out.setCell (p := ⟨w.heap.size + 2, 5, none⟩) (show w.heap.size ≤ w.heap.size + 2 by omega) (.int .i64 (q6 : Nat))); have HO0_6 := Lib.hid (HP0_6.out.far (p := ⟨w.heap.size + 2, 5, none⟩) (show w.heap.size ≠ w.heap.size + 2 by omega) (.int .i64 (q6 : Nat))); obtain ⟨e0, e1, e2, e3, e4, e5, e6⟩ := stcell (s := s6) HS6.out)
  clear d0 d1 d2 d3 d4 d5 d6 xo xf e0 e1 e2 e3 e4 e5 e6 HI6 HY6 HC6 HP0_6
  generalize u6.setCell ⟨w.heap.size + 2, 5, none⟩ (.int .i64 (q6 : Nat)) = V6 at *
  refine (HT7.out _).mono ?_
  rintro e w7 ⟨rfl, hb⟩
  have HR7 := Lib.hid (HS6.out.below hb HS6.out.lt)
  have HU7 := Lib.hid (HX6.out.below hb HX6.out.lt)
  have HD7 := Lib.hid (HB6.out.trans (hb.mono HB6.out.size))
  have HV0_7 := Lib.hid (HO0_6.out.below hb HO0_6.out.lt)
  clear hb HS6 HX6 HB6 HO0_6 HT7
  go_wp2_with (refine wpList_store_row rfl 85 (.tmp 5) (.tmp 41) rfl (w.heap.size + 1) 85 _ #[.string B, .int .i64 ((s7).p : Nat), .int .i64 ((s7).e : Nat), .int .i64 ((s7).o : Nat), .int .i64 (q6 : Nat), .string q2, .bool q7] rfl rfl HR7.out (size_st _ _ _ _ _ _ _) rfl (by simp [Value.oneCell']) ?_; have HI7 := Lib.hid (box_set HR7.out #[.string B, .int .i64 ((s7).p : Nat), .int .i64 ((s7).e : Nat), .int .i64 ((s7).o : Nat), .int .i64 (q6 : Nat), .string q2, .bool q7]); have HY7 := Lib.hid (box_off HU7.out (show w.heap.size + 2 ≠ w.heap.size + 1 by omega) #[.string B, .int .i64 ((s7).p : Nat), .int .i64 ((s7).e : Nat), .int .i64 ((s7).o : Nat), .int .i64 (q6 : Nat), .string q2, .bool q7]); have HC7 := Lib.hid (below_putRow HD7.out (show w.heap.size ≤ w.heap.size + 1 by omega) #[.string B, .int .i64 ((s7).p : Nat), .int .i64 ((s7).e : Nat), .int .i64 ((s7).o : Nat), .int .i64 (q6 : Nat), .string q2, .bool q7]); have HP0_7 := Lib.hid (box_off HV0_7.out (show w.heap.size ≠ w.heap.size + 1 by omega) #[.string B, .int .i64 ((s7).p : Nat), .int .i64 ((s7).e : Nat), .int .i64 ((s7).o : Nat), .int .i64 (q6 : Nat), .string q2, .bool q7]); clear HR7 HU7 HD7 HV0_7; generalize w7.setRow (w.heap.size + 1) #[.string B, .int .i64 ((s7).p : Nat), .int .i64 ((s7).e : Nat), .int .i64 ((s7).o : Nat), .int .i64 (q6 : Nat), .string q2, .bool q7] = u7 at *; obtain ⟨d0, d1, d2, d3, d4, d5, d6⟩ := stcell (s := s7) HI7.out; have xo := HY7.out.cell 6; simp only [List.getElem?_toArray, List.getElem?_cons_zero, List.getElem?_cons_succ] at xo; have xf := HY7.out.frozen 6; have HS7 := Lib.hid (HI7.out.far (p := ⟨w.heap.size + 2, 6, none⟩) (show w.heap.size + 1 ≠ w.heap.size + 2 by omega) (.bool (q7))); have HX7 : Hid (Box (u7.setCell ⟨w.heap.size + 2, 6, none⟩ (.bool (q7))) (w.heap.size + 2) 40 #[.int .i64 (q1 : Nat), .string (q2), .int .i64 (q3 : Nat), .int .i64 (q4 : Nat), .int .i64 (q5 : Nat), .int .i64 (q6 : Nat), .bool (q7), .int .i64 0, .int .i64 0]) := Lib.hid (HY7.out.put 6 (.bool (q7))); have HB7 := Lib.hid (HC7.out.setCell (p := ⟨w.heap.size + 2, 6, none⟩) (show w.heap.size ≤ w.heap.size + 2 by omega) (.bool (q7))); have HO0_7 := Lib.hid (HP0_7.out.far (p := ⟨w.heap.size + 2, 6, none⟩) (show w.heap.size ≠ w.heap.size + 2 by omega) (.bool (q7))); obtain ⟨e0, e1, e2, e3, e4, e5, e6⟩ := stcell (s := s7) HS7.out)
  clear d0 d1 d2 d3 d4 d5 d6 xo xf e0 e1 e2 e3 e4 e5 e6 HI7 HY7 HC7 HP0_7
  generalize u7.setCell ⟨w.heap.size + 2, 6, none⟩ (.bool (q7)) = V7 at *
  refine (HT8.out _).mono ?_
  rintro e w8 ⟨rfl, hb⟩
  have HR8 := Lib.hid (HS7.out.below hb HS7.out.lt)
  have HU8 := Lib.hid (HX7.out.below hb HX7.out.lt)
  have HD8 := Lib.hid (HB7.out.trans (hb.mono HB7.out.size))
  have HV0_8 := Lib.hid (HO0_7.out.below hb HO0_7.out.lt)
  clear hb HS7 HX7 HB7 HO0_7 HT8
  go_wp2_with (refine wpList_store_row rfl 85 (.tmp 5) (.tmp 46) rfl (w.heap.size + 1) 85 _ #[.string B, .int .i64 ((s8).p : Nat), .int .i64 ((s8).e : Nat), .int .i64 ((s8).o : Nat), .int .i64 (q8 : Nat), .string q2, .bool q7] rfl rfl HR8.out (size_st _ _ _ _ _ _ _) rfl (by simp [Value.oneCell']) ?_; have HI8 := Lib.hid (box_set HR8.out #[.string B, .int .i64 ((s8).p : Nat), .int .i64 ((s8).e : Nat), .int .i64 ((s8).o : Nat), .int .i64 (q8 : Nat), .string q2, .bool q7]); have HY8 := Lib.hid (box_off HU8.out (show w.heap.size + 2 ≠ w.heap.size + 1 by omega) #[.string B, .int .i64 ((s8).p : Nat), .int .i64 ((s8).e : Nat), .int .i64 ((s8).o : Nat), .int .i64 (q8 : Nat), .string q2, .bool q7]); have HC8 := Lib.hid (below_putRow HD8.out (show w.heap.size ≤ w.heap.size + 1 by omega) #[.string B, .int .i64 ((s8).p : Nat), .int .i64 ((s8).e : Nat), .int .i64 ((s8).o : Nat), .int .i64 (q8 : Nat), .string q2, .bool q7]); have HP0_8 := Lib.hid (box_off HV0_8.out (show w.heap.size ≠ w.heap.size + 1 by omega) #[.string B, .int .i64 ((s8).p : Nat), .int .i64 ((s8).e : Nat), .int .i64 ((s8).o : Nat), .int .i64 (q8 : Nat), .string q2, .bool q7]); clear HR8 HU8 HD8 HV0_8; generalize w8.setRow (w.heap.size + 1) #[.string B, .int .i64 ((s8).p : Nat), .int .i64 ((s8).e : Nat), .int .i64 ((s8).o : Nat), .int .i64 (q8 : Nat), .string q2, .bool q7] = u8 at *; obtain ⟨d0, d1, d2, d3, d4, d5, d6⟩ := stcell (s := s8) HI8.out; have xo := HY8.out.cell 7; simp only [List.getElem?_toArray, List.getElem?_cons_zero, List.getElem?_cons_succ] at xo; have xf := HY8.out.frozen 7; have HS8 := Lib.hid (HI8.out.far (p := ⟨w.heap.size + 2, 7, none⟩) (show w.heap.size + 1 ≠ w.heap.size + 2 by omega) (.int .i64 (q8 : Nat))); have HX8 : Hid (Box (u8.setCell ⟨w.heap.size + 2, 7, none⟩ (.int .i64 (q8 : Nat))) (w.heap.size + 2) 40 #[.int .i64 (q1 : Nat), .string (q2), .int .i64 (q3 : Nat), .int .i64 (q4 : Nat), .int .i64 (q5 : Nat), .int .i64 (q6 : Nat), .bool (q7), .int .i64 (q8 : Nat), .int .i64 0]) := Lib.hid (HY8.out.put 7 (.int .i64 (q8 : Nat))); have HB8 := Lib.hid (HC8.out.setCell (p := ⟨w.heap.size + 2, 7, none⟩) (show w.heap.size ≤ w.heap.size + 2 by omega) (.int .i64 (q8 : Nat))); have HO0_8 := Lib.hid (HP0_8.out.far (p := ⟨w.heap.size + 2, 7, none⟩) (show w.heap.size ≠ w.heap.size + 2 by omega) (.int .i64 (q8 : Nat))); obtain ⟨e0, e1, e2, e3, e4, e5, e6⟩ := stcell (s := s8) HS8.out)
  clear d0 d1 d2 d3 d4 d5 d6 xo xf e0 e1 e2 e3 e4 e5 e6 HI8 HY8 HC8 HP0_8
  generalize u8.setCell ⟨w.heap.size + 2, 7, none⟩ (.int .i64 (q8 : Nat)) = V8 at *
  refine (HT9.out _).mono ?_
  rintro e w9 ⟨rfl, hb⟩
  have HR9 := Lib.hid (HS8.out.below hb HS8.out.lt)
  have HU9 := Lib.hid (HX8.out.below hb HX8.out.lt)
  have HD9 := Lib.hid (HB8.out.trans (hb.mono HB8.out.size))
  have HV0_9 := Lib.hid (HO0_8.out.below hb HO0_8.out.lt)
  clear hb HS8 HX8 HB8 HO0_8 HT9
  go_wp2_with (refine wpList_store_row rfl 85 (.tmp 5) (.tmp 51) rfl (w.heap.size + 1) 85 _ #[.string B, .int .i64 ((s9).p : Nat), .int .i64 ((s9).e : Nat), .int .i64 ((s9).o : Nat), .int .i64 (q9 : Nat), .string q2, .bool q7] rfl rfl HR9.out (size_st _ _ _ _ _ _ _) rfl (by simp [Value.oneCell']) ?_; have HI9 := Lib.hid (box_set HR9.out #[.string B, .int .i64 ((s9).p : Nat), .int .i64 ((s9).e : Nat), .int .i64 ((s9).o : Nat), .int .i64 (q9 : Nat), .string q2, .bool q7]); have HY9 := Lib.hid (box_off HU9.out (show w.heap.size + 2 ≠ w.heap.size + 1 by omega) #[.string B, .int .i64 ((s9).p : Nat), .int .i64 ((s9).e : Nat), .int .i64 ((s9).o : Nat), .int .i64 (q9 : Nat), .string q2, .bool q7]); have HC9 := Lib.hid (below_putRow HD9.out (show w.heap.size ≤ w.heap.size + 1 by omega) #[.string B, .int .i64 ((s9).p : Nat), .int .i64 ((s9).e : Nat), .int .i64 ((s9).o : Nat), .int .i64 (q9 : Nat), .string q2, .bool q7]); have HP0_9 := Lib.hid (box_off HV0_9.out (show w.heap.size ≠ w.heap.size + 1 by omega) #[.string B, .int .i64 ((s9).p : Nat), .int .i64 ((s9).e : Nat), .int .i64 ((s9).o : Nat), .int .i64 (q9 : Nat), .string q2, .bool q7]); clear HR9 HU9 HD9 HV0_9; generalize w9.setRow (w.heap.size + 1) #[.string B, .int .i64 ((s9).p : Nat), .int .i64 ((s9).e : Nat), .int .i64 ((s9).o : Nat), .int .i64 (q9 : Nat), .string q2, .bool q7] = u9 at *; obtain ⟨d0, d1, d2, d3, d4, d5, d6⟩ := stcell (s := s9) HI9.out; have xo := HY9.out.cell 8; simp only [List.getElem?_toArray, List.getElem?_cons_zero, List.getElem?_cons_succ] at xo; have xf := HY9.out.frozen 8; have HS9 := Lib.hid (HI9.out.far (p := ⟨w.heap.size + 2, 8, none⟩) (show w.heap.size + 1 ≠ w.heap.size + 2 by omega) (.int .i64 (q9 : Nat))); have HX9 : Hid (Box (u9.setCell ⟨w.heap.size + 2, 8, none⟩ (.int .i64 (q9 : Nat))) (w.heap.size + 2) 40 #[.int .i64 (q1 : Nat), .string (q2), .int .i64 (q3 : Nat), .int .i64 (q4 : Nat), .int .i64 (q5 : Nat), .int .i64 (q6 : Nat), .bool (q7), .int .i64 (q8 : Nat), .int .i64 (q9 : Nat)]) := Lib.hid (HY9.out.put 8 (.int .i64 (q9 : Nat))); have HB9 := Lib.hid (HC9.out.setCell (p := ⟨w.heap.size + 2, 8, none⟩) (show w.heap.size ≤ w.heap.size + 2 by omega) (.int .i64 (q9 : Nat))); have HO0_9 := Lib.hid (HP0_9.out.far (p := ⟨w.heap.size + 2, 8, none⟩) (show w.heap.size ≠ w.heap.size + 2 by omega) (.int .i64 (q9 : Nat))); obtain ⟨e0, e1, e2, e3, e4, e5, e6⟩ := stcell (s := s9) HS9.out)
  clear d0 d1 d2 d3 d4 d5 d6 xo xf e0 e1 e2 e3 e4 e5 e6 HI9 HY9 HC9 HP0_9
  generalize u9.setCell ⟨w.heap.size + 2, 8, none⟩ (.int .i64 (q9 : Nat)) = V9 at *
  refine (HTe.out _).mono ?_
  rintro e wz ⟨rfl, hb⟩
  have HSz := Lib.hid (HS9.out.below hb HS9.out.lt)
  have HXz := Lib.hid (show Box wz (w.heap.size + 2) 40 #[.int .i64 (q1 : Nat), .string (q2), .int .i64 (q3 : Nat), .int .i64 (q4 : Nat), .int .i64 (q5 : Nat), .int .i64 (q6 : Nat), .bool (q7), .int .i64 (q8 : Nat), .int .i64 (q9 : Nat)] from HX9.out.below hb HX9.out.lt)
  have HOz := Lib.hid (HO0_9.out.below hb HO0_9.out.lt)
  have HBz := Lib.hid (HB9.out.trans (hb.mono HB9.out.size))
  clear hb HTe
  have HSt := Lib.hid (box_set HSz.out #[.string B, .int .i64 ((T).p : Nat), .int .i64 ((T).e : Nat), .int .i64 ((T).o : Nat), .int .i64 (q9 : Nat), .string q2, .bool q7])
  have HXt := Lib.hid (box_off HXz.out (show w.heap.size + 2 ≠ w.heap.size + 1 by omega) #[.string B, .int .i64 ((T).p : Nat), .int .i64 ((T).e : Nat), .int .i64 ((T).o : Nat), .int .i64 (q9 : Nat), .string q2, .bool q7])
  have HOt := Lib.hid (box_off HOz.out (show w.heap.size ≠ w.heap.size + 1 by omega) #[.string B, .int .i64 ((T).p : Nat), .int .i64 ((T).e : Nat), .int .i64 ((T).o : Nat), .int .i64 (q9 : Nat), .string q2, .bool q7])
  have HBt := Lib.hid (below_putRow HBz.out (show w.heap.size ≤ w.heap.size + 1 by omega) #[.string B, .int .i64 ((T).p : Nat), .int .i64 ((T).e : Nat), .int .i64 ((T).o : Nat), .int .i64 (q9 : Nat), .string q2, .bool q7])
  by_cases hE : T.e = 0
  · have hz : ((T.e : Int) != 0) = false := by simp [hE]
    have HE := Lib.hid hE
    clear hE
    go_wp2_with (first
      | (refine wpList_store_row rfl 85 (.tmp 5) (.tmp 56) rfl (w.heap.size + 1) 85 _ #[.string B, .int .i64 ((T).p : Nat), .int .i64 ((T).e : Nat), .int .i64 ((T).o : Nat), .int .i64 (q9 : Nat), .string q2, .bool q7] rfl rfl HSz.out (size_st _ _ _ _ _ _ _) rfl (by simp [Value.oneCell']) ?_; generalize wz.setRow (w.heap.size + 1) #[.string B, .int .i64 ((T).p : Nat), .int .i64 ((T).e : Nat), .int .i64 ((T).o : Nat), .int .i64 (q9 : Nat), .string q2, .bool q7] = u at *; obtain ⟨d0, d1, d2, d3, d4, d5, d6⟩ := stcell (s := T) HSt.out)
      | (refine wpList_load_row rfl 40 (.tmp 6) rfl (w.heap.size + 2) 40 #[.int .i64 (q1 : Nat), .string (q2), .int .i64 (q3 : Nat), .int .i64 (q4 : Nat), .int .i64 (q5 : Nat), .int .i64 (q6 : Nat), .bool (q7), .int .i64 (q8 : Nat), .int .i64 (q9 : Nat)] _ rfl HXt.out Try.underlying40 rfl (by show (Try.prog.info? 40).map (·.size) = some 9; kernel_rfl) ?_)
      | (refine wpList_store_row rfl 40 (.tmp 2) (.tmp 65) rfl (w.heap.size) 40 _ #[.int .i64 (q1 : Nat), .string (q2), .int .i64 (q3 : Nat), .int .i64 (q4 : Nat), .int .i64 (q5 : Nat), .int .i64 (q6 : Nat), .bool (q7), .int .i64 (q8 : Nat), .int .i64 (q9 : Nat)] rfl rfl HOt.out (by show (Try.prog.info? 40).map (·.size) = some 9; kernel_rfl) rfl (by simp [Value.oneCell']) ?_))
    refine bodyPost_ret (res_ctt rfl _ _ (w.heap.size) #[.int .i64 (q1 : Nat), .string (q2), .int .i64 (q3 : Nat), .int .i64 (q4 : Nat), .int .i64 (q5 : Nat), .int .i64 (q6 : Nat), .bool (q7), .int .i64 (q8 : Nat), .int .i64 (q9 : Nat)] Try.underlying40 (by show (Try.prog.info? 40).map (·.size) = some 9; kernel_rfl) rfl (box_set HOt.out _)) rfl ⟨by rw [HA.out, takenV_yes HE.out]; rfl, ?_⟩
    exact below_putRow HBt.out (Nat.le_refl _) _
  · have hz : ((T.e : Int) != 0) = true := by simpa using hE
    have HE := Lib.hid hE
    clear hE
    go_wp2_with (refine wpList_store_row rfl 85 (.tmp 5) (.tmp 56) rfl (w.heap.size + 1) 85 _ #[.string B, .int .i64 ((T).p : Nat), .int .i64 ((T).e : Nat), .int .i64 ((T).o : Nat), .int .i64 (q9 : Nat), .string q2, .bool q7] rfl rfl HSz.out (size_st _ _ _ _ _ _ _) rfl (by simp [Value.oneCell']) ?_; generalize wz.setRow (w.heap.size + 1) #[.string B, .int .i64 ((T).p : Nat), .int .i64 ((T).e : Nat), .int .i64 ((T).o : Nat), .int .i64 (q9 : Nat), .string q2, .bool q7] = u at *; obtain ⟨d0, d1, d2, d3, d4, d5, d6⟩ := stcell (s := T) HSt.out)
    have z2 : ∀ v, Box v (w.heap.size + 1) 85 #[.string B, .int .i64 ((T).p : Nat), .int .i64 ((T).e : Nat), .int .i64 ((T).o : Nat), .int .i64 (q9 : Nat), .string q2, .bool q7] → v.cell? ⟨w.heap.size + 1, 2, none⟩ = some (.int .i64 (T.e : Nat)) := fun v h => h.cell 2
    have z3 : ∀ v, Box v (w.heap.size + 1) 85 #[.string B, .int .i64 ((T).p : Nat), .int .i64 ((T).e : Nat), .int .i64 ((T).o : Nat), .int .i64 (q9 : Nat), .string q2, .bool q7] → v.cell? ⟨w.heap.size + 1, 3, none⟩ = some (.int .i64 (T.o : Nat)) := fun v h => h.cell 3
    refine wp_region_held_drew (S := fun v => Box v (w.heap.size + 1) 85 #[.string B, .int .i64 ((T).p : Nat), .int .i64 ((T).e : Nat), .int .i64 ((T).o : Nat), .int .i64 (q9 : Nat), .string q2, .bool q7]) (by kernel_rfl) (HSt.out.drewN 1) (fun hHeld => ?_)
    refine wpAnyH_take (i := 0) (oi := ⟨some 60, _, _, _, _, _⟩) (v := ?_) rfl (by kernel_rfl) (by kernel_rfl) (by kernel_rfl) (fun _ _ _ h => h) (Or.inl ⟨by rfl, ?_⟩) (by assumption) ?_
    rotate_left
    · (intro u hu; (try dsimp only at hu); go_simp; (try with_reducible rfl))
    (try simp only [Act.put, List.setIfInBounds_toArray, List.set_cons_zero, List.set_cons_succ])
    refine wpAnyH_take (i := 1) (oi := ⟨some 61, _, _, _, _, _⟩) (v := ?_) rfl (by kernel_rfl) (by kernel_rfl) (by kernel_rfl) (fun _ _ _ h => h) (Or.inl ⟨by rfl, ?_⟩) (by assumption) ?_
    rotate_left
    · (intro u hu; (try dsimp only at hu); go_simp; (try with_reducible rfl))
    (try simp only [Act.put, List.setIfInBounds_toArray, List.set_cons_zero, List.set_cons_succ])
    refine wpAnyH_take (i := 2) (oi := ⟨some 62, _, _, _, _, _⟩) (v := ?_) rfl (by kernel_rfl) (by kernel_rfl) (by kernel_rfl) (fun _ _ _ h => h) (Or.inl ⟨by rfl, ?_⟩) (by assumption) ?_
    rotate_left
    · (intro u hu; (try dsimp only at hu); go_simp; (try with_reducible rfl))
    (try simp only [Act.put, List.setIfInBounds_toArray, List.set_cons_zero, List.set_cons_succ])
    refine wpAnyH_take (i := 3) (oi := ⟨some 63, _, _, _, _, _⟩) (v := ?_) rfl (by kernel_rfl) (by kernel_rfl) (by kernel_rfl) (fun _ _ _ h => h) (Or.inl ⟨by rfl, ?_⟩) (by assumption) ?_
    rotate_left
    · (intro u hu; (try dsimp only at hu); go_simp; (try with_reducible rfl))
    (try simp only [Act.put, List.setIfInBounds_toArray, List.set_cons_zero, List.set_cons_succ])
    refine wpAnyH_take (i := 4) (oi := ⟨some 64, _, _, _, _, _⟩) (v := ?_) rfl (by kernel_rfl) (by kernel_rfl) (by kernel_rfl) (fun _ _ _ h => h) (Or.inl ⟨by rfl, ?_⟩) (by assumption) ?_
    rotate_left
    · (intro u hu; (try dsimp only at hu); go_simp; (try with_reducible rfl))
    (try simp only [Act.put, List.setIfInBounds_toArray, List.set_cons_zero, List.set_cons_succ])
    refine wpAnyH_ready (rs := [5]) (by decide +kernel) (by simp) ?_
    refine AllReadyH.cons (o := ⟨none, _, _, _, _, _⟩) rfl (fun K hK => ?_) AllReadyH.nil
    rw [if_pos (by rfl)]
    refine oper_store 40 _ _ rfl (w.heap.size) 40 _ #[.int .i64 0, .string ⟨#[]⟩, .int .i64 0, .int .i64 0, .int .i64 0, .int .i64 0, .bool false, .int .i64 0, .int .i64 0] rfl rfl (HOt.out.drewN 1) (by show (Try.prog.info? 40).map (·.size) = some 9; kernel_rfl) rfl (by simp [Value.oneCell']) ?_
    have hA := Lib.hid (box_off (HSt.out.drewN 1) (show w.heap.size + 1 ≠ w.heap.size by omega) #[.int .i64 0, .string ⟨#[]⟩, .int .i64 0, .int .i64 0, .int .i64 0, .int .i64 0, .bool false, .int .i64 0, .int .i64 0])
    refine hK.out _ _ ?_ (fun hHeld => ?_)
    · exact hA.out
    clear hK K
    (try simp only [Act.put])
    refine wpAnyH_take (i := 6) (oi := ⟨some 3, _, _, _, _, _⟩) (v := ?_) rfl (by kernel_rfl) (by kernel_rfl) (by kernel_rfl) (fun _ _ _ h => h) (Or.inl ⟨by rfl, ?_⟩) (by assumption) ?_
    rotate_left
    · (intro u hu; (try dsimp only at hu); go_simp; (try with_reducible rfl))
    (try simp only [Act.put, List.setIfInBounds_toArray, List.set_cons_zero, List.set_cons_succ])
    refine wpAnyH_take (i := 7) (oi := ⟨some 4, _, _, _, _, _⟩) (v := ?_) rfl (by kernel_rfl) (by kernel_rfl) (by kernel_rfl) (fun _ _ _ h => h) (Or.inl ⟨by rfl, ?_⟩) (by assumption) ?_
    rotate_left
    · (intro u hu; (try dsimp only at hu); go_simp; (try with_reducible rfl))
    (try simp only [Act.put, List.setIfInBounds_toArray, List.set_cons_zero, List.set_cons_succ])
    refine wpAnyH_done (by kernel_rfl) ?_ _
    clear z2 z3
    go_wp2_with fail
    refine bodyPost_ret (res_ctt rfl _ _ (w.heap.size) #[.int .i64 0, .string ⟨#[]⟩, .int .i64 0, .int .i64 0, .int .i64 0, .int .i64 0, .bool false, .int .i64 0, .int .i64 0] Try.underlying40 (by show (Try.prog.info? 40).map (·.size) = some 9; kernel_rfl) rfl (box_set (HOt.out.drewN 1) _)) rfl ⟨by rw [HA.out, takenV_err HE.out]; rfl, ?_⟩
    exact below_putRow (Below.drew HBt.out) (Nat.le_refl _) _
end Go.Proofs.Ytihkadbcjeohjaa.Co
