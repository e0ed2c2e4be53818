/-
  The program's TakeSaga.
  Conditions: the bytes lie in memory; they are at most 2^40.
-/
import Derived.Test.YtihkadbcjeohjaaCodTs
namespace Go.Proofs.Ytihkadbcjeohjaa.Co
open Go.RowKit
open Go.Proofs.Ytihkadbcjeohjaa.El
open Go.Proofs.Ytihkadbcjeohjaa.Df
open Go.Proofs.Ytihkadbcjeohjaa.Bo (P Made ret_int ret_bool)
open Go.Proofs.Ytihkadbcjeohjaa.Sa (Sg Rp)

theorem takenS (l : List UInt8) (x : Sg) (s T : Ps) (h : T = endS l s) : ∀ g u, RdAt u u g l s → Calls Try.prog 45 #[.agg #[.pointer (some ⟨g, 0, none⟩)], .agg #[.int .i64 x.id, .string x.dn, .int .i64 x.st, .int .i64 x.ph, .int .i64 x.sp, .int .i64 x.tr, .bool x.out, .int .i64 x.at_, .int .i64 x.sk], .bool true] u fun e w2 =>
    (∃ c, c.size = 9 ∧ c.all (·.oneCell') = true ∧ ∃ a b : Nat, e = .returned (.tuple #[.agg c, .int .i64 (a : Int), .int .i64 (b : Int)]) ∧ takenV T true (.agg #[.int .i64 0, .string ⟨#[]⟩, .int .i64 0, .int .i64 0, .int .i64 0, .int .i64 0, .bool false, .int .i64 0, .int .i64 0]) (.agg #[.int .i64 x.id, .string x.dn, .int .i64 x.st, .int .i64 x.ph, .int .i64 x.sp, .int .i64 x.tr, .bool x.out, .int .i64 x.at_, .int .i64 x.sk]) = .tuple #[.agg c, .int .i64 (a : Int), .int .i64 (b : Int)]) ∧ RdAt u w2 g l T := by
  intro g u hr
  refine (taken_saga x true hr).mono ?_
  rintro e w2 ⟨rfl, hR⟩
  rw [← h] at hR ⊢
  refine ⟨?_, hR⟩
  by_cases hE : T.e = 0
  · rw [takenV_yes hE]
    exact ⟨_, rfl, by simp [Value.oneCell'], 0, 0, rfl, rfl⟩
  · rw [takenV_err hE]
    exact ⟨_, rfl, by simp [Value.oneCell'], T.o, T.e, rfl, rfl⟩
set_option maxHeartbeats 16000000 in
set_option maxRecDepth 100000 in
theorem takeSaga_any (A : Option Addr) (l : List UInt8) (c : Nat) (w : World) (hb : Byt w w.heap.size A l) (hl : l.length ≤ 1099511627776) :
    Calls Try.prog 16 #[.slice A l.length c] w fun e w' => e = .returned (takenV (sagaE l) true (.agg #[.int .i64 0, .string ⟨#[]⟩, .int .i64 0, .int .i64 0, .int .i64 0, .int .i64 0, .bool false, .int .i64 0, .int .i64 0]) (.agg #[.int .i64 (sagaQ l zeroP).id, .string (sagaQ l zeroP).dn, .int .i64 (sagaQ l zeroP).st, .int .i64 (sagaQ l zeroP).ph, .int .i64 (sagaQ l zeroP).sp, .int .i64 (sagaQ l zeroP).tr, .bool (sagaQ l zeroP).out, .int .i64 (sagaQ l zeroP).at_, .int .i64 (sagaQ l zeroP).sk])) ∧ Below w.heap.size w w' := by
  have HN := Lib.hid (new_any A l c (w.alloc (.cells #[.int .i64 0, .string ⟨#[]⟩, .int .i64 0, .int .i64 0, .int .i64 0, .int .i64 0, .bool false, .int .i64 0, .int .i64 0] 40)) ((hb.below ((Below.refl _ w).alloc (Nat.le_refl _) _)).more (by simp)) hl)
  have HX := Lib.hid (Box.new w 40 #[.int .i64 0, .string ⟨#[]⟩, .int .i64 0, .int .i64 0, .int .i64 0, .int .i64 0, .bool false, .int .i64 0, .int .i64 0])
  have HB := Lib.hid ((Below.refl w.heap.size w).alloc (Nat.le_refl _) (.cells #[.int .i64 0, .string ⟨#[]⟩, .int .i64 0, .int .i64 0, .int .i64 0, .int .i64 0, .bool false, .int .i64 0, .int .i64 0] 40))
  have hz0 : (w.alloc (.cells #[.int .i64 0, .string ⟨#[]⟩, .int .i64 0, .int .i64 0, .int .i64 0, .int .i64 0, .bool false, .int .i64 0, .int .i64 0] 40)).heap.size = w.heap.size + 1 := by simp
  obtain ⟨s1, hs1⟩ : ∃ t, t = numS l zeroP := ⟨_, rfl⟩
  obtain ⟨q1, hq1⟩ : ∃ q, q = numQ l zeroP := ⟨_, rfl⟩
  have HC1 : Hid (∀ g u, RdAt u u g l zeroP → Calls Try.prog 42 #[.pointer (some ⟨g, 0, none⟩)] u fun e w2 => e = .returned (.int .i64 (q1 : Nat)) ∧ RdAt u w2 g l s1) := Lib.hid fun g u h => by rw [hs1, hq1]; exact num_s h
  obtain ⟨s2, hs2⟩ : ∃ t, t = txtS l s1 := ⟨_, rfl⟩
  obtain ⟨q2, hq2⟩ : ∃ q, q = txtQ l s1 := ⟨_, rfl⟩
  have HC2 : Hid (∀ g u, RdAt u u g l s1 → Calls Try.prog 43 #[.agg #[.pointer (some ⟨g, 0, none⟩)]] u fun e w2 => e = .returned (.string q2) ∧ RdAt u w2 g l s2) := Lib.hid fun g u h => by rw [hs2, hq2]; exact text_s h
  obtain ⟨s3, hs3⟩ : ∃ t, t = numS l s2 := ⟨_, rfl⟩
  obtain ⟨q3, hq3⟩ : ∃ q, q = numQ l s2 := ⟨_, rfl⟩
  have HC3 : Hid (∀ g u, RdAt u u g l s2 → Calls Try.prog 42 #[.pointer (some ⟨g, 0, none⟩)] u fun e w2 => e = .returned (.int .i64 (q3 : Nat)) ∧ RdAt u w2 g l s3) := Lib.hid fun g u h => by rw [hs3, hq3]; exact num_s h
  obtain ⟨s4, hs4⟩ : ∃ t, t = numS l s3 := ⟨_, rfl⟩
  obtain ⟨q4, hq4⟩ : ∃ q, q = numQ l s3 := ⟨_, rfl⟩
  have HC4 : Hid (∀ g u, RdAt u u g l s3 → Calls Try.prog 42 #[.pointer (some ⟨g, 0, none⟩)] u fun e w2 => e = .returned (.int .i64 (q4 : Nat)) ∧ RdAt u w2 g l s4) := Lib.hid fun g u h => by rw [hs4, hq4]; exact num_s h
  obtain ⟨s5, hs5⟩ : ∃ t, t = numS l s4 := ⟨_, rfl⟩
  obtain ⟨q5, hq5⟩ : ∃ q, q = numQ l s4 := ⟨_, rfl⟩
  have HC5 : Hid (∀ g u, RdAt u u g l s4 → Calls Try.prog 42 #[.pointer (some ⟨g, 0, none⟩)] u fun e w2 => e = .returned (.int .i64 (q5 : Nat)) ∧ RdAt u w2 g l s5) := Lib.hid fun g u h => by rw [hs5, hq5]; exact num_s h
  obtain ⟨s6, hs6⟩ : ∃ t, t = numS l s5 := ⟨_, rfl⟩
  obtain ⟨q6, hq6⟩ : ∃ q, q = numQ l s5 := ⟨_, rfl⟩
  have HC6 : Hid (∀ g u, RdAt u u g l s5 → Calls Try.prog 42 #[.pointer (some ⟨g, 0, none⟩)] u fun e w2 => e = .returned (.int .i64 (q6 : Nat)) ∧ RdAt u w2 g l s6) := Lib.hid fun g u h => by rw [hs6, hq6]; exact num_s h
  obtain ⟨s7, hs7⟩ : ∃ t, t = flgS l s6 := ⟨_, rfl⟩
  obtain ⟨q7, hq7⟩ : ∃ q, q = flgQ l s6 := ⟨_, rfl⟩
  have HC7 : Hid (∀ g u, RdAt u u g l s6 → Calls Try.prog 44 #[.pointer (some ⟨g, 0, none⟩)] u fun e w2 => e = .returned (.bool q7) ∧ RdAt u w2 g l s7) := Lib.hid fun g u h => by rw [hs7, hq7]; exact flg_s h
  obtain ⟨s8, hs8⟩ : ∃ t, t = numS l s7 := ⟨_, rfl⟩
  obtain ⟨q8, hq8⟩ : ∃ q, q = numQ l s7 := ⟨_, rfl⟩
  have HC8 : Hid (∀ g u, RdAt u u g l s7 → Calls Try.prog 42 #[.pointer (some ⟨g, 0, none⟩)] u fun e w2 => e = .returned (.int .i64 (q8 : Nat)) ∧ RdAt u w2 g l s8) := Lib.hid fun g u h => by rw [hs8, hq8]; exact num_s h
  obtain ⟨s9, hs9⟩ : ∃ t, t = numS l s8 := ⟨_, rfl⟩
  obtain ⟨q9, hq9⟩ : ∃ q, q = numQ l s8 := ⟨_, rfl⟩
  have HC9 : Hid (∀ g u, RdAt u u g l s8 → Calls Try.prog 42 #[.pointer (some ⟨g, 0, none⟩)] u fun e w2 => e = .returned (.int .i64 (q9 : Nat)) ∧ RdAt u w2 g l s9) := Lib.hid fun g u h => by rw [hs9, hq9]; exact num_s h
  have HG : Hid (sagaS l zeroP = s9 ∧ sagaQ l zeroP = ⟨q1, q2, q3, q4, q5, q6, q7, q8, q9⟩) := Lib.hid (by subst_vars; exact ⟨rfl, rfl⟩)
  clear hs9 hq9 hs8 hq8 hs7 hq7 hs6 hq6 hs5 hq5 hs4 hq4 hs3 hq3 hs2 hq2 hs1 hq1
  obtain ⟨T, hT⟩ : ∃ T, T = endS l s9 := ⟨_, rfl⟩
  obtain ⟨ans, hans⟩ : ∃ ans, ans = takenV T true (.agg #[.int .i64 0, .string ⟨#[]⟩, .int .i64 0, .int .i64 0, .int .i64 0, .int .i64 0, .bool false, .int .i64 0, .int .i64 0]) (.agg #[.int .i64 (q1 : Nat), .string q2, .int .i64 (q3 : Nat), .int .i64 (q4 : Nat), .int .i64 (q5 : Nat), .int .i64 (q6 : Nat), .bool q7, .int .i64 (q8 : Nat), .int .i64 (q9 : Nat)]) := ⟨_, rfl⟩
  have HTk := Lib.hid (takenS l ⟨q1, q2, q3, q4, q5, q6, q7, q8, q9⟩ s9 T hT)
  have HE : Hid (takenV (sagaE l) true (.agg #[.int .i64 0, .string ⟨#[]⟩, .int .i64 0, .int .i64 0, .int .i64 0, .int .i64 0, .bool false, .int .i64 0, .int .i64 0]) (.agg #[.int .i64 (sagaQ l zeroP).id, .string (sagaQ l zeroP).dn, .int .i64 (sagaQ l zeroP).st, .int .i64 (sagaQ l zeroP).ph, .int .i64 (sagaQ l zeroP).sp, .int .i64 (sagaQ l zeroP).tr, .bool (sagaQ l zeroP).out, .int .i64 (sagaQ l zeroP).at_, .int .i64 (sagaQ l zeroP).sk]) = ans) := Lib.hid (by rw [hans, hT]; unfold sagaE; rw [HG.out.1, HG.out.2])
  rw [HE.out]
  have HA := Lib.hid hans
  clear hb hT hans HE HG
  go_enter Try.func16, Try.ntmps16
  go_wp2_with fail
  generalize w.alloc (.cells #[.int .i64 0, .string ⟨#[]⟩, .int .i64 0, .int .i64 0, .int .i64 0, .int .i64 0, .bool false, .int .i64 0, .int .i64 0] 40) = W0 at *
  refine HN.out.mono ?_
  rintro e w1 ⟨g, rfl, hg, hR, hB⟩
  have HT0 : Hid (Ts w (w1.alloc (.cells #[.pointer (some ⟨g, 0, none⟩)] 80)) w1.heap.size g w.heap.size l zeroP 40 #[.int .i64 0, .string ⟨#[]⟩, .int .i64 0, .int .i64 0, .int .i64 0, .int .i64 0, .bool false, .int .i64 0, .int .i64 0]) := Lib.hid (by
    have hgl : g < w1.heap.size := by obtain ⟨A', c', _, hb', _⟩ := hR.box; exact hb'.lt
    have hr : RdAt w1 w1 g l zeroP := RdAt.refl hR hgl
    have hr2 := hr.alloc (.cells #[.pointer (some ⟨g, 0, none⟩)] 80)
    have hbw := HB.out.trans (hB.mono HB.out.size)
    exact ⟨RdAt.refl hr2.rd (by simp; omega), Box.new _ _ _, (HX.out.below hB HX.out.lt).alloc _, hbw.alloc hbw.size _, by omega, Nat.le_refl _, hbw.size, by omega, by omega, by have := hB.size; omega⟩)
  clear hg hR hB HN HX HB
  have c0 := HT0.out.cell
  go_wp2_with fail
  clear c0
  refine wp_region_held_drew (S := fun v => v.cell? ⟨w1.heap.size, 0, none⟩ = some (.pointer (some ⟨g, 0, none⟩))) (by kernel_rfl) (HT0.out.drew.cell) (fun hHeld => ?_)
  have HD := Lib.hid HT0.out.drew
  clear HT0
  refine wpAnyH_take (i := 0) (oi := ⟨some 9, _, _, _, _, _⟩) (v := ?_) rfl (by kernel_rfl) (by kernel_rfl) (by kernel_rfl) (fun _ _ _ h => h) (Or.inl ⟨by rfl, ?_⟩) (by assumption) ?_
  rotate_left
  · (intro u hu; (try dsimp only at hu); go_simp; (try with_reducible rfl))
  (try simp only [Act.put, List.setIfInBounds_toArray, List.set_cons_zero, List.set_cons_succ])
  refine wpAnyH_take (i := 1) (oi := ⟨some 10, _, _, _, _, _⟩) (v := ?_) rfl (by kernel_rfl) (by kernel_rfl) (by kernel_rfl) (fun _ _ _ h => h) (Or.inl ⟨by rfl, ?_⟩) (by assumption) ?_
  rotate_left
  · (intro u hu; (try dsimp only at hu); go_simp; (try with_reducible rfl))
  (try simp only [Act.put, List.setIfInBounds_toArray, List.set_cons_zero, List.set_cons_succ])
  refine wpAnyH_take (i := 3) (oi := ⟨some 12, _, _, _, _, _⟩) (v := ?_) rfl (by kernel_rfl) (by kernel_rfl) (by kernel_rfl) (fun _ _ _ h => h) (Or.inl ⟨by rfl, ?_⟩) (by assumption) ?_
  rotate_left
  · (intro u hu; (try dsimp only at hu); go_simp; (try with_reducible rfl))
  (try simp only [Act.put, List.setIfInBounds_toArray, List.set_cons_zero, List.set_cons_succ])
  refine wpAnyH_ready (rs := [2]) (by kernel_rfl) (by simp) ?_
  refine AllReadyH.cons (o := ⟨some 11, _, _, _, _, _⟩) rfl (fun K hK => ?_) AllReadyH.nil
  go_simp
  refine (HC1.out g _ HD.out.rd).mono ?_
  rintro e u1 ⟨rfl, hR⟩
  have HT1 := Lib.hid (HD.out.call hR)
  clear hR HD HC1
  go_wp2_with fail
  refine hK.out _ _ ?_ (fun hHeld => ?_)
  · exact HT1.out.cell
  clear hK K
  (try simp only [Act.put, List.setIfInBounds_toArray, List.set_cons_zero, List.set_cons_succ])
  refine wpAnyH_take (i := 5) (oi := ⟨some 14, _, _, _, _, _⟩) (v := ?_) rfl (by kernel_rfl) (by kernel_rfl) (by kernel_rfl) (fun _ _ _ h => h) (Or.inl ⟨by rfl, ?_⟩) (by assumption) ?_
  rotate_left
  · (intro u hu; (try dsimp only at hu); go_simp; (try with_reducible rfl))
  (try simp only [Act.put, List.setIfInBounds_toArray, List.set_cons_zero, List.set_cons_succ])
  refine wpAnyH_ready (rs := [4]) (by kernel_rfl) (by simp) ?_
  refine AllReadyH.cons (o := ⟨some 13, _, _, _, _, _⟩) rfl (fun K hK => ?_) AllReadyH.nil
  go_simp
  refine (HC2.out g _ HT1.out.rd).mono ?_
  rintro e u2 ⟨rfl, hR⟩
  have HT2 := Lib.hid (HT1.out.call hR)
  clear hR HT1 HC2
  go_wp2_with fail
  refine hK.out _ _ ?_ (fun hHeld => ?_)
  · exact HT2.out.cell
  clear hK K
  (try simp only [Act.put, List.setIfInBounds_toArray, List.set_cons_zero, List.set_cons_succ])
  have d := HT2.out.xb.cell 0
  simp only [List.getElem?_toArray, List.getElem?_cons_zero] at d
  have f := HT2.out.xb.frozen 0
  refine wpAnyH_ready (rs := [6]) (by decide +kernel) (by simp) ?_
  refine AllReadyH.cons (o := ⟨none, _, _, _, _, _⟩) rfl (fun K hK => ?_) AllReadyH.nil
  go_simp
  have HT3 : Hid (Ts w (u2.setCell ⟨w.heap.size, 0, none⟩ (.int .i64 (q1 : Nat))) w1.heap.size g w.heap.size l s2 40 #[.int .i64 (q1 : Nat), .string ⟨#[]⟩, .int .i64 0, .int .i64 0, .int .i64 0, .int .i64 0, .bool false, .int .i64 0, .int .i64 0]) := Lib.hid (HT2.out.put (by simp [noU]) 0 (.int .i64 (q1 : Nat)))
  refine hK.out _ _ ?_ (fun hHeld => ?_)
  · exact HT3.out.cell
  clear hK K d f HT2
  (try simp only [Act.put])
  generalize u2.setCell ⟨w.heap.size, 0, none⟩ (.int .i64 (q1 : Nat)) = v3 at *
  refine wpAnyH_take (i := 7) (oi := ⟨some 15, _, _, _, _, _⟩) (v := ?_) rfl (by kernel_rfl) (by kernel_rfl) (by kernel_rfl) (fun _ _ _ h => h) (Or.inl ⟨by rfl, ?_⟩) (by assumption) ?_
  rotate_left
  · (intro u hu; (try dsimp only at hu); go_simp; (try with_reducible rfl))
  (try simp only [Act.put, List.setIfInBounds_toArray, List.set_cons_zero, List.set_cons_succ])
  have d := HT3.out.xb.cell 1
  simp only [List.getElem?_toArray, List.getElem?_cons_zero, List.getElem?_cons_succ] at d
  have f := HT3.out.xb.frozen 1
  refine wpAnyH_ready (rs := [8]) (by decide +kernel) (by simp) ?_
  refine AllReadyH.cons (o := ⟨none, _, _, _, _, _⟩) rfl (fun K hK => ?_) AllReadyH.nil
  go_simp
  have HT4 : Hid (Ts w (v3.setCell ⟨w.heap.size, 1, none⟩ (.string q2)) w1.heap.size g w.heap.size l s2 40 #[.int .i64 (q1 : Nat), .string q2, .int .i64 0, .int .i64 0, .int .i64 0, .int .i64 0, .bool false, .int .i64 0, .int .i64 0]) := Lib.hid (HT3.out.put (by simp [noU]) 1 (.string q2))
  refine hK.out _ _ ?_ (fun hHeld => ?_)
  · exact HT4.out.cell
  clear hK K d f HT3
  (try simp only [Act.put])
  generalize v3.setCell ⟨w.heap.size, 1, none⟩ (.string q2) = v4 at *
  refine wpAnyH_done (by kernel_rfl) ?_ _
  have c0 := HT4.out.cell
  go_wp2_with fail
  clear c0
  refine wp_region_held_drew (S := fun v => v.cell? ⟨w1.heap.size, 0, none⟩ = some (.pointer (some ⟨g, 0, none⟩))) (by kernel_rfl) (HT4.out.drew.cell) (fun hHeld => ?_)
  have HD := Lib.hid HT4.out.drew
  clear HT4
  refine wpAnyH_take (i := 0) (oi := ⟨some 16, _, _, _, _, _⟩) (v := ?_) rfl (by kernel_rfl) (by kernel_rfl) (by kernel_rfl) (fun _ _ _ h => h) (Or.inl ⟨by rfl, ?_⟩) (by assumption) ?_
  rotate_left
  · (intro u hu; (try dsimp only at hu); go_simp; (try with_reducible rfl))
  (try simp only [Act.put, List.setIfInBounds_toArray, List.set_cons_zero, List.set_cons_succ])
  refine wpAnyH_take (i := 1) (oi := ⟨some 17, _, _, _, _, _⟩) (v := ?_) rfl (by kernel_rfl) (by kernel_rfl) (by kernel_rfl) (fun _ _ _ h => h) (Or.inl ⟨by rfl, ?_⟩) (by assumption) ?_
  rotate_left
  · (intro u hu; (try dsimp only at hu); go_simp; (try with_reducible rfl))
  (try simp only [Act.put, List.setIfInBounds_toArray, List.set_cons_zero, List.set_cons_succ])
  refine wpAnyH_take (i := 3) (oi := ⟨some 19, _, _, _, _, _⟩) (v := ?_) rfl (by kernel_rfl) (by kernel_rfl) (by kernel_rfl) (fun _ _ _ h => h) (Or.inl ⟨by rfl, ?_⟩) (by assumption) ?_
  rotate_left
  · (intro u hu; (try dsimp only at hu); go_simp; (try with_reducible rfl))
  (try simp only [Act.put, List.setIfInBounds_toArray, List.set_cons_zero, List.set_cons_succ])
  refine wpAnyH_take (i := 4) (oi := ⟨some 20, _, _, _, _, _⟩) (v := ?_) rfl (by kernel_rfl) (by kernel_rfl) (by kernel_rfl) (fun _ _ _ h => h) (Or.inl ⟨by rfl, ?_⟩) (by assumption) ?_
  rotate_left
  · (intro u hu; (try dsimp only at hu); go_simp; (try with_reducible rfl))
  (try simp only [Act.put, List.setIfInBounds_toArray, List.set_cons_zero, List.set_cons_succ])
  refine wpAnyH_take (i := 6) (oi := ⟨some 22, _, _, _, _, _⟩) (v := ?_) rfl (by kernel_rfl) (by kernel_rfl) (by kernel_rfl) (fun _ _ _ h => h) (Or.inl ⟨by rfl, ?_⟩) (by assumption) ?_
  rotate_left
  · (intro u hu; (try dsimp only at hu); go_simp; (try with_reducible rfl))
  (try simp only [Act.put, List.setIfInBounds_toArray, List.set_cons_zero, List.set_cons_succ])
  refine wpAnyH_take (i := 7) (oi := ⟨some 23, _, _, _, _, _⟩) (v := ?_) rfl (by kernel_rfl) (by kernel_rfl) (by kernel_rfl) (fun _ _ _ h => h) (Or.inl ⟨by rfl, ?_⟩) (by assumption) ?_
  rotate_left
  · (intro u hu; (try dsimp only at hu); go_simp; (try with_reducible rfl))
  (try simp only [Act.put, List.setIfInBounds_toArray, List.set_cons_zero, List.set_cons_succ])
  refine wpAnyH_take (i := 9) (oi := ⟨some 25, _, _, _, _, _⟩) (v := ?_) rfl (by kernel_rfl) (by kernel_rfl) (by kernel_rfl) (fun _ _ _ h => h) (Or.inl ⟨by rfl, ?_⟩) (by assumption) ?_
  rotate_left
  · (intro u hu; (try dsimp only at hu); go_simp; (try with_reducible rfl))
  (try simp only [Act.put, List.setIfInBounds_toArray, List.set_cons_zero, List.set_cons_succ])
  refine wpAnyH_take (i := 10) (oi := ⟨some 26, _, _, _, _, _⟩) (v := ?_) rfl (by kernel_rfl) (by kernel_rfl) (by kernel_rfl) (fun _ _ _ h => h) (Or.inl ⟨by rfl, ?_⟩) (by assumption) ?_
  rotate_left
  · (intro u hu; (try dsimp only at hu); go_simp; (try with_reducible rfl))
  (try simp only [Act.put, List.setIfInBounds_toArray, List.set_cons_zero, List.set_cons_succ])
  refine wpAnyH_ready (rs := [2]) (by kernel_rfl) (by simp) ?_
  refine AllReadyH.cons (o := ⟨some 18, _, _, _, _, _⟩) rfl (fun K hK => ?_) AllReadyH.nil
  go_simp
  refine (HC3.out g _ HD.out.rd).mono ?_
  rintro e u5 ⟨rfl, hR⟩
  have HT5 := Lib.hid (HD.out.call hR)
  clear hR HD HC3
  go_wp2_with fail
  refine hK.out _ _ ?_ (fun hHeld => ?_)
  · exact HT5.out.cell
  clear hK K
  (try simp only [Act.put, List.setIfInBounds_toArray, List.set_cons_zero, List.set_cons_succ])
  refine wpAnyH_take (i := 12) (oi := ⟨some 28, _, _, _, _, _⟩) (v := ?_) rfl (by kernel_rfl) (by kernel_rfl) (by kernel_rfl) (fun _ _ _ h => h) (Or.inl ⟨by rfl, ?_⟩) (by assumption) ?_
  rotate_left
  · (intro u hu; (try dsimp only at hu); go_simp; (try with_reducible rfl))
  (try simp only [Act.put, List.setIfInBounds_toArray, List.set_cons_zero, List.set_cons_succ])
  refine wpAnyH_ready (rs := [5]) (by kernel_rfl) (by simp) ?_
  refine AllReadyH.cons (o := ⟨some 21, _, _, _, _, _⟩) rfl (fun K hK => ?_) AllReadyH.nil
  go_simp
  refine (HC4.out g _ HT5.out.rd).mono ?_
  rintro e u6 ⟨rfl, hR⟩
  have HT6 := Lib.hid (HT5.out.call hR)
  clear hR HT5 HC4
  go_wp2_with fail
  refine hK.out _ _ ?_ (fun hHeld => ?_)
  · exact HT6.out.cell
  clear hK K
  (try simp only [Act.put, List.setIfInBounds_toArray, List.set_cons_zero, List.set_cons_succ])
  refine wpAnyH_ready (rs := [8]) (by kernel_rfl) (by simp) ?_
  refine AllReadyH.cons (o := ⟨some 24, _, _, _, _, _⟩) rfl (fun K hK => ?_) AllReadyH.nil
  go_simp
  refine (HC5.out g _ HT6.out.rd).mono ?_
  rintro e u7 ⟨rfl, hR⟩
  have HT7 := Lib.hid (HT6.out.call hR)
  clear hR HT6 HC5
  go_wp2_with fail
  refine hK.out _ _ ?_ (fun hHeld => ?_)
  · exact HT7.out.cell
  clear hK K
  (try simp only [Act.put, List.setIfInBounds_toArray, List.set_cons_zero, List.set_cons_succ])
  refine wpAnyH_ready (rs := [11]) (by kernel_rfl) (by simp) ?_
  refine AllReadyH.cons (o := ⟨some 27, _, _, _, _, _⟩) rfl (fun K hK => ?_) AllReadyH.nil
  go_simp
  refine (HC6.out g _ HT7.out.rd).mono ?_
  rintro e u8 ⟨rfl, hR⟩
  have HT8 := Lib.hid (HT7.out.call hR)
  clear hR HT7 HC6
  go_wp2_with fail
  refine hK.out _ _ ?_ (fun hHeld => ?_)
  · exact HT8.out.cell
  clear hK K
  (try simp only [Act.put, List.setIfInBounds_toArray, List.set_cons_zero, List.set_cons_succ])
  have d := HT8.out.xb.cell 2
  simp only [List.getElem?_toArray, List.getElem?_cons_zero, List.getElem?_cons_succ] at d
  have f := HT8.out.xb.frozen 2
  refine wpAnyH_ready (rs := [13]) (by decide +kernel) (by simp) ?_
  refine AllReadyH.cons (o := ⟨none, _, _, _, _, _⟩) rfl (fun K hK => ?_) AllReadyH.nil
  go_simp
  have HT9 : Hid (Ts w (u8.setCell ⟨w.heap.size, 2, none⟩ (.int .i64 (q3 : Nat))) w1.heap.size g w.heap.size l s6 40 #[.int .i64 (q1 : Nat), .string q2, .int .i64 (q3 : Nat), .int .i64 0, .int .i64 0, .int .i64 0, .bool false, .int .i64 0, .int .i64 0]) := Lib.hid (HT8.out.put (by simp [noU]) 2 (.int .i64 (q3 : Nat)))
  refine hK.out _ _ ?_ (fun hHeld => ?_)
  · exact HT9.out.cell
  clear hK K d f HT8
  (try simp only [Act.put])
  generalize u8.setCell ⟨w.heap.size, 2, none⟩ (.int .i64 (q3 : Nat)) = v9 at *
  refine wpAnyH_take (i := 14) (oi := ⟨some 29, _, _, _, _, _⟩) (v := ?_) rfl (by kernel_rfl) (by kernel_rfl) (by kernel_rfl) (fun _ _ _ h => h) (Or.inl ⟨by rfl, ?_⟩) (by assumption) ?_
  rotate_left
  · (intro u hu; (try dsimp only at hu); go_simp; (try with_reducible rfl))
  (try simp only [Act.put, List.setIfInBounds_toArray, List.set_cons_zero, List.set_cons_succ])
  have d := HT9.out.xb.cell 3
  simp only [List.getElem?_toArray, List.getElem?_cons_zero, List.getElem?_cons_succ] at d
  have f := HT9.out.xb.frozen 3
  refine wpAnyH_ready (rs := [15]) (by decide +kernel) (by simp) ?_
  refine AllReadyH.cons (o := ⟨none, _, _, _, _, _⟩) rfl (fun K hK => ?_) AllReadyH.nil
  go_simp
  have HT10 : Hid (Ts w (v9.setCell ⟨w.heap.size, 3, none⟩ (.int .i64 (q4 : Nat))) w1.heap.size g w.heap.size l s6 40 #[.int .i64 (q1 : Nat), .string q2, .int .i64 (q3 : Nat), .int .i64 (q4 : Nat), .int .i64 0, .int .i64 0, .bool false, .int .i64 0, .int .i64 0]) := Lib.hid (HT9.out.put (by simp [noU]) 3 (.int .i64 (q4 : Nat)))
  refine hK.out _ _ ?_ (fun hHeld => ?_)
  · exact HT10.out.cell
  clear hK K d f HT9
  (try simp only [Act.put])
  generalize v9.setCell ⟨w.heap.size, 3, none⟩ (.int .i64 (q4 : Nat)) = v10 at *
  refine wpAnyH_take (i := 16) (oi := ⟨some 30, _, _, _, _, _⟩) (v := ?_) rfl (by kernel_rfl) (by kernel_rfl) (by kernel_rfl) (fun _ _ _ h => h) (Or.inl ⟨by rfl, ?_⟩) (by assumption) ?_
  rotate_left
  · (intro u hu; (try dsimp only at hu); go_simp; (try with_reducible rfl))
  (try simp only [Act.put, List.setIfInBounds_toArray, List.set_cons_zero, List.set_cons_succ])
  have d := HT10.out.xb.cell 4
  simp only [List.getElem?_toArray, List.getElem?_cons_zero, List.getElem?_cons_succ] at d
  have f := HT10.out.xb.frozen 4
  refine wpAnyH_ready (rs := [17]) (by decide +kernel) (by simp) ?_
  refine AllReadyH.cons (o := ⟨none, _, _, _, _, _⟩) rfl (fun K hK => ?_) AllReadyH.nil
  go_simp
  have HT11 : Hid (Ts w (v10.setCell ⟨w.heap.size, 4, none⟩ (.int .i64 (q5 : Nat))) w1.heap.size g w.heap.size l s6 40 #[.int .i64 (q1 : Nat), .string q2, .int .i64 (q3 : Nat), .int .i64 (q4 : Nat), .int .i64 (q5 : Nat), .int .i64 0, .bool false, .int .i64 0, .int .i64 0]) := Lib.hid (HT10.out.put (by simp [noU]) 4 (.int .i64 (q5 : Nat)))
  refine hK.out _ _ ?_ (fun hHeld => ?_)
  · exact HT11.out.cell
  clear hK K d f HT10
  (try simp only [Act.put])
  generalize v10.setCell ⟨w.heap.size, 4, none⟩ (.int .i64 (q5 : Nat)) = v11 at *
  refine wpAnyH_take (i := 18) (oi := ⟨some 31, _, _, _, _, _⟩) (v := ?_) rfl (by kernel_rfl) (by kernel_rfl) (by kernel_rfl) (fun _ _ _ h => h) (Or.inl ⟨by rfl, ?_⟩) (by assumption) ?_
  rotate_left
  · (intro u hu; (try dsimp only at hu); go_simp; (try with_reducible rfl))
  (try simp only [Act.put, List.setIfInBounds_toArray, List.set_cons_zero, List.set_cons_succ])
  have d := HT11.out.xb.cell 5
  simp only [List.getElem?_toArray, List.getElem?_cons_zero, List.getElem?_cons_succ] at d
  have f := HT11.out.xb.frozen 5
  refine wpAnyH_ready (rs := [19]) (by decide +kernel) (by simp) ?_
  refine AllReadyH.cons (o := ⟨none, _, _, _, _, _⟩) rfl (fun K hK => ?_) AllReadyH.nil
  go_simp
  have HT12 : Hid (Ts w (v11.setCell ⟨w.heap.size, 5, none⟩ (.int .i64 (q6 : Nat))) w1.heap.size g w.heap.size l s6 40 #[.int .i64 (q1 : Nat), .string q2, .int .i64 (q3 : Nat), .int .i64 (q4 : Nat), .int .i64 (q5 : Nat), .int .i64 (q6 : Nat), .bool false, .int .i64 0, .int .i64 0]) := Lib.hid (HT11.out.put (by simp [noU]) 5 (.int .i64 (q6 : Nat)))
  refine hK.out _ _ ?_ (fun hHeld => ?_)
  · exact HT12.out.cell
  clear hK K d f HT11
  (try simp only [Act.put])
  generalize v11.setCell ⟨w.heap.size, 5, none⟩ (.int .i64 (q6 : Nat)) = v12 at *
  refine wpAnyH_done (by kernel_rfl) ?_ _
  have c0 := HT12.out.cell
  go_wp2_with fail
  clear c0
  refine (HC7.out g _ HT12.out.rd).mono ?_
  rintro e u13 ⟨rfl, hR⟩
  have HT13 := Lib.hid (HT12.out.call hR)
  clear hR HT12 HC7
  have d := HT13.out.xb.cell 6
  simp only [List.getElem?_toArray, List.getElem?_cons_zero, List.getElem?_cons_succ] at d
  have f := HT13.out.xb.frozen 6
  have HT14 : Hid (Ts w (u13.setCell ⟨w.heap.size, 6, none⟩ (.bool q7)) w1.heap.size g w.heap.size l s7 40 #[.int .i64 (q1 : Nat), .string q2, .int .i64 (q3 : Nat), .int .i64 (q4 : Nat), .int .i64 (q5 : Nat), .int .i64 (q6 : Nat), .bool q7, .int .i64 0, .int .i64 0]) := Lib.hid (HT13.out.put (by simp [noU]) 6 (.bool q7))
  have c0 := HT14.out.cell
  go_wp2_with fail
  clear c0 d f
  generalize u13.setCell ⟨w.heap.size, 6, none⟩ (.bool q7) = vf at *
  have c0 := HT14.out.cell
  clear c0
  refine wp_region_held_drew (S := fun v => v.cell? ⟨w1.heap.size, 0, none⟩ = some (.pointer (some ⟨g, 0, none⟩))) (by kernel_rfl) (HT14.out.drew.cell) (fun hHeld => ?_)
  have HD := Lib.hid HT14.out.drew
  clear HT14
  refine wpAnyH_take (i := 0) (oi := ⟨some 36, _, _, _, _, _⟩) (v := ?_) rfl (by kernel_rfl) (by kernel_rfl) (by kernel_rfl) (fun _ _ _ h => h) (Or.inl ⟨by rfl, ?_⟩) (by assumption) ?_
  rotate_left
  · (intro u hu; (try dsimp only at hu); go_simp; (try with_reducible rfl))
  (try simp only [Act.put, List.setIfInBounds_toArray, List.set_cons_zero, List.set_cons_succ])
  refine wpAnyH_take (i := 1) (oi := ⟨some 37, _, _, _, _, _⟩) (v := ?_) rfl (by kernel_rfl) (by kernel_rfl) (by kernel_rfl) (fun _ _ _ h => h) (Or.inl ⟨by rfl, ?_⟩) (by assumption) ?_
  rotate_left
  · (intro u hu; (try dsimp only at hu); go_simp; (try with_reducible rfl))
  (try simp only [Act.put, List.setIfInBounds_toArray, List.set_cons_zero, List.set_cons_succ])
  refine wpAnyH_take (i := 3) (oi := ⟨some 39, _, _, _, _, _⟩) (v := ?_) rfl (by kernel_rfl) (by kernel_rfl) (by kernel_rfl) (fun _ _ _ h => h) (Or.inl ⟨by rfl, ?_⟩) (by assumption) ?_
  rotate_left
  · (intro u hu; (try dsimp only at hu); go_simp; (try with_reducible rfl))
  (try simp only [Act.put, List.setIfInBounds_toArray, List.set_cons_zero, List.set_cons_succ])
  refine wpAnyH_take (i := 4) (oi := ⟨some 40, _, _, _, _, _⟩) (v := ?_) rfl (by kernel_rfl) (by kernel_rfl) (by kernel_rfl) (fun _ _ _ h => h) (Or.inl ⟨by rfl, ?_⟩) (by assumption) ?_
  rotate_left
  · (intro u hu; (try dsimp only at hu); go_simp; (try with_reducible rfl))
  (try simp only [Act.put, List.setIfInBounds_toArray, List.set_cons_zero, List.set_cons_succ])
  refine wpAnyH_ready (rs := [2]) (by kernel_rfl) (by simp) ?_
  refine AllReadyH.cons (o := ⟨some 38, _, _, _, _, _⟩) rfl (fun K hK => ?_) AllReadyH.nil
  go_simp
  refine (HC8.out g _ HD.out.rd).mono ?_
  rintro e u15 ⟨rfl, hR⟩
  have HT15 := Lib.hid (HD.out.call hR)
  clear hR HD HC8
  go_wp2_with fail
  refine hK.out _ _ ?_ (fun hHeld => ?_)
  · exact HT15.out.cell
  clear hK K
  (try simp only [Act.put, List.setIfInBounds_toArray, List.set_cons_zero, List.set_cons_succ])
  refine wpAnyH_take (i := 6) (oi := ⟨some 42, _, _, _, _, _⟩) (v := ?_) rfl (by kernel_rfl) (by kernel_rfl) (by kernel_rfl) (fun _ _ _ h => h) (Or.inl ⟨by rfl, ?_⟩) (by assumption) ?_
  rotate_left
  · (intro u hu; (try dsimp only at hu); go_simp; (try with_reducible rfl))
  (try simp only [Act.put, List.setIfInBounds_toArray, List.set_cons_zero, List.set_cons_succ])
  refine wpAnyH_ready (rs := [5]) (by kernel_rfl) (by simp) ?_
  refine AllReadyH.cons (o := ⟨some 41, _, _, _, _, _⟩) rfl (fun K hK => ?_) AllReadyH.nil
  go_simp
  refine (HC9.out g _ HT15.out.rd).mono ?_
  rintro e u16 ⟨rfl, hR⟩
  have HT16 := Lib.hid (HT15.out.call hR)
  clear hR HT15 HC9
  go_wp2_with fail
  refine hK.out _ _ ?_ (fun hHeld => ?_)
  · exact HT16.out.cell
  clear hK K
  (try simp only [Act.put, List.setIfInBounds_toArray, List.set_cons_zero, List.set_cons_succ])
  have d := HT16.out.xb.cell 7
  simp only [List.getElem?_toArray, List.getElem?_cons_zero, List.getElem?_cons_succ] at d
  have f := HT16.out.xb.frozen 7
  refine wpAnyH_ready (rs := [7]) (by decide +kernel) (by simp) ?_
  refine AllReadyH.cons (o := ⟨none, _, _, _, _, _⟩) rfl (fun K hK => ?_) AllReadyH.nil
  go_simp
  have HT17 : Hid (Ts w (u16.setCell ⟨w.heap.size, 7, none⟩ (.int .i64 (q8 : Nat))) w1.heap.size g w.heap.size l s9 40 #[.int .i64 (q1 : Nat), .string q2, .int .i64 (q3 : Nat), .int .i64 (q4 : Nat), .int .i64 (q5 : Nat), .int .i64 (q6 : Nat), .bool q7, .int .i64 (q8 : Nat), .int .i64 0]) := Lib.hid (HT16.out.put (by simp [noU]) 7 (.int .i64 (q8 : Nat)))
  refine hK.out _ _ ?_ (fun hHeld => ?_)
  · exact HT17.out.cell
  clear hK K d f HT16
  (try simp only [Act.put])
  generalize u16.setCell ⟨w.heap.size, 7, none⟩ (.int .i64 (q8 : Nat)) = v17 at *
  refine wpAnyH_take (i := 8) (oi := ⟨some 43, _, _, _, _, _⟩) (v := ?_) rfl (by kernel_rfl) (by kernel_rfl) (by kernel_rfl) (fun _ _ _ h => h) (Or.inl ⟨by rfl, ?_⟩) (by assumption) ?_
  rotate_left
  · (intro u hu; (try dsimp only at hu); go_simp; (try with_reducible rfl))
  (try simp only [Act.put, List.setIfInBounds_toArray, List.set_cons_zero, List.set_cons_succ])
  have d := HT17.out.xb.cell 8
  simp only [List.getElem?_toArray, List.getElem?_cons_zero, List.getElem?_cons_succ] at d
  have f := HT17.out.xb.frozen 8
  refine wpAnyH_ready (rs := [9]) (by decide +kernel) (by simp) ?_
  refine AllReadyH.cons (o := ⟨none, _, _, _, _, _⟩) rfl (fun K hK => ?_) AllReadyH.nil
  go_simp
  have HT18 : Hid (Ts w (v17.setCell ⟨w.heap.size, 8, none⟩ (.int .i64 (q9 : Nat))) w1.heap.size g w.heap.size l s9 40 #[.int .i64 (q1 : Nat), .string q2, .int .i64 (q3 : Nat), .int .i64 (q4 : Nat), .int .i64 (q5 : Nat), .int .i64 (q6 : Nat), .bool q7, .int .i64 (q8 : Nat), .int .i64 (q9 : Nat)]) := Lib.hid (HT17.out.put (by simp [noU]) 8 (.int .i64 (q9 : Nat)))
  refine hK.out _ _ ?_ (fun hHeld => ?_)
  · exact HT18.out.cell
  clear hK K d f HT17
  (try simp only [Act.put])
  generalize v17.setCell ⟨w.heap.size, 8, none⟩ (.int .i64 (q9 : Nat)) = v18 at *
  refine wpAnyH_done (by kernel_rfl) ?_ _
  have c0 := HT18.out.cell
  go_wp2_with (refine wpList_load_row rfl 40 (.tmp 2) rfl (w.heap.size) 40 #[.int .i64 (q1 : Nat), .string q2, .int .i64 (q3 : Nat), .int .i64 (q4 : Nat), .int .i64 (q5 : Nat), .int .i64 (q6 : Nat), .bool q7, .int .i64 (q8 : Nat), .int .i64 (q9 : Nat)] _ rfl HT18.out.xb Try.underlying40 rfl (by show (Try.prog.info? 40).map (·.size) = some 9; kernel_rfl) ?_)
  refine (HTk.out g _ HT18.out.rd).mono ?_
  rintro e u9 ⟨⟨cs, hcs, hc1, a, b, rfl, hv⟩, hR⟩
  have HF := Lib.hid (HT18.out.call hR)
  have HV := Lib.hid hv
  have HC := Lib.hid hcs
  clear hR hv hcs HTk
  go_wp2_with (refine wpList_store_row rfl 40 (.tmp 2) (.tmp 47) rfl (w.heap.size) 40 _ cs rfl rfl HF.out.xb (by rw [HC.out]; kernel_rfl) (by rw [HC.out]; rfl) hc1 ?_)
  refine bodyPost_ret (res_ctt rfl _ _ (w.heap.size) cs Try.underlying40 (by rw [HC.out]; kernel_rfl) rfl (box_set HF.out.xb _)) rfl ⟨by rw [HA.out, HV.out]; rfl, ?_⟩
  exact below_putRow HF.out.bel (Nat.le_refl _) _
end Go.Proofs.Ytihkadbcjeohjaa.Co
