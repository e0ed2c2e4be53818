/-
  What the reader of parts takes: a plan, a reply, a step.
  Conditions: the reader is one of bytes, at most 2^40.
-/
import Derived.Test.YtihkadbcjeohjaaCodRd
import Derived.Deep.RegionHeld3
namespace Go.Proofs.Ytihkadbcjeohjaa.Co
open Go.RowKit
open Go.Proofs.Ytihkadbcjeohjaa.El
open Go.Proofs.Ytihkadbcjeohjaa.Df
open Go.Proofs.Ytihkadbcjeohjaa.Bo (P Made ret_int ret_bool)
open Go.Proofs.Ytihkadbcjeohjaa.Sa (Sg Rp)

theorem oper_store {op : Oper} {a : Act} {w : World} {K : Act → World → Prop} {Q : Exit → Act → World → Prop} (ty : TypeId) (x y : Operand) (ho : op.op = .store ty x y)
    (g : Nat) (t : TypeId) (old cs : Array Value) (hx : a.eval x = .pointer (some ⟨g, 0, none⟩)) (hy : a.eval y = .agg cs) (hg : w.heap[g]? = some (.cells old t (0, 0)))
    (hi : (Try.prog.info? ty).map (·.size) = some cs.size) (hs : old.size = cs.size) (h1 : cs.all (·.oneCell') = true) (h : K (a.put op.dst undef) (w.setRow g cs)) : Oper.wp Try.prog op a w K Q := by
  unfold Oper.wp execOp
  simp only [ho, hx, hy, Instr.storeAt, Instr.sureAddr, Sem.run_bind, Sem.run_pure, Result.andThen_ok, run_storeVar_row w g t ty old cs hg hi hs h1]
  exact h
theorem box_new2 (w : World) (o : Obj) (t : TypeId) (cs : Array Value) : Box ((w.alloc o).alloc (.cells cs t)) (w.heap.size + 1) t cs := by
  have := Box.new (w.alloc o) t cs
  simpa using this
theorem box_set {w : World} {g : Nat} {t : TypeId} {cs : Array Value} (h : Box w g t cs) (cs' : Array Value) : Box (w.setRow g cs') g t cs' := by
  unfold Box at h ⊢
  simp [World.setRow, Array.getElem?_modify, h]
theorem cell_far {w : World} {p : Addr} {x : Value} (h : w.cell? p = some x) {q : Nat} (hq : p.block ≠ q) (cs : Array Value) : (w.setRow q cs).cell? p = some x := (World.cell?_of_block (setRow_other w q p.block cs hq)).trans h
section
variable {W u : World} {g : Nat} {l : List UInt8} {s : Ps}
set_option maxHeartbeats 4000000 in
set_option maxRecDepth 100000 in
theorem plan_s (h : RdAt W u g l s) : Calls Try.prog 84 #[.agg #[.pointer (some ⟨g, 0, none⟩)]] u fun e w' => e = .returned (.agg #[.int .i64 (planQ l s).r, .int .i64 (planQ l s).b, .int .i64 (planQ l s).f, .int .i64 (planQ l s).c]) ∧ RdAt W w' g l (planS l s) := by
  have HR := Lib.hid h
  have HR0 := Lib.hid ((RdAt.refl ((h.alloc (.cells #[.pointer (some ⟨g, 0, none⟩)] 80)).alloc (.cells #[.int .i64 0, .int .i64 0, .int .i64 0, .int .i64 0] 65)).rd (by have := h.lt; have := h.size; simp; omega)).drew)
  have HX := Lib.hid ((Box.new u 80 #[.pointer (some ⟨g, 0, none⟩)]).alloc (.cells #[.int .i64 0, .int .i64 0, .int .i64 0, .int .i64 0] 65))
  have HQ := Lib.hid (box_new2 u (.cells #[.pointer (some ⟨g, 0, none⟩)] 80) 65 #[.int .i64 0, .int .i64 0, .int .i64 0, .int .i64 0])
  have HU := Lib.hid ((h.alloc (.cells #[.pointer (some ⟨g, 0, none⟩)] 80)).alloc (.cells #[.int .i64 0, .int .i64 0, .int .i64 0, .int .i64 0] 65))
  have hs0 : ((u.alloc (.cells #[.pointer (some ⟨g, 0, none⟩)] 80)).alloc (.cells #[.int .i64 0, .int .i64 0, .int .i64 0, .int .i64 0] 65)).heap.size = u.heap.size + 2 := by simp
  have hq : u.heap.size ≠ g := by have := h.lt; have := h.size; omega
  have hq2 : u.heap.size + 1 ≠ g := by have := h.lt; have := h.size; omega
  have hW := h.size
  clear h
  go_enter Try.func84, Try.ntmps84
  go_upto_region 1 with fail
  generalize (u.alloc (.cells #[.pointer (some ⟨g, 0, none⟩)] 80)).alloc (.cells #[.int .i64 0, .int .i64 0, .int .i64 0, .int .i64 0] 65) = W0 at *
  refine wp_region_held_drew (S := fun v => v.cell? ⟨u.heap.size, 0, none⟩ = some (.pointer (some ⟨g, 0, none⟩))) (by kernel_rfl) (HR0.out.cell (j := 0) HX.out hq) (fun hHeld => ?_)
  refine wpAnyH_take (i := 0) (oi := ⟨some 3, _, _, _, _, _⟩) (v := ?_) rfl (by kernel_rfl) (by kernel_rfl) (by kernel_rfl) (fun _ _ _ h => h) (Or.inl ⟨by rfl, ?_⟩) (by assumption) ?_
  rotate_left
  · (intro u hu; (try dsimp only at hu); go_simp; (try with_reducible rfl))
  (try simp only [Act.put, List.setIfInBounds_toArray, List.set_cons_zero, List.set_cons_succ])
  refine wpAnyH_take (i := 1) (oi := ⟨some 4, _, _, _, _, _⟩) (v := ?_) rfl (by kernel_rfl) (by kernel_rfl) (by kernel_rfl) (fun _ _ _ h => h) (Or.inl ⟨by rfl, ?_⟩) (by assumption) ?_
  rotate_left
  · (intro u hu; (try dsimp only at hu); go_simp; (try with_reducible rfl))
  (try simp only [Act.put, List.setIfInBounds_toArray, List.set_cons_zero, List.set_cons_succ])
  refine wpAnyH_take (i := 3) (oi := ⟨some 6, _, _, _, _, _⟩) (v := ?_) rfl (by kernel_rfl) (by kernel_rfl) (by kernel_rfl) (fun _ _ _ h => h) (Or.inl ⟨by rfl, ?_⟩) (by assumption) ?_
  rotate_left
  · (intro u hu; (try dsimp only at hu); go_simp; (try with_reducible rfl))
  (try simp only [Act.put, List.setIfInBounds_toArray, List.set_cons_zero, List.set_cons_succ])
  refine wpAnyH_take (i := 4) (oi := ⟨some 7, _, _, _, _, _⟩) (v := ?_) rfl (by kernel_rfl) (by kernel_rfl) (by kernel_rfl) (fun _ _ _ h => h) (Or.inl ⟨by rfl, ?_⟩) (by assumption) ?_
  rotate_left
  · (intro u hu; (try dsimp only at hu); go_simp; (try with_reducible rfl))
  (try simp only [Act.put, List.setIfInBounds_toArray, List.set_cons_zero, List.set_cons_succ])
  refine wpAnyH_take (i := 6) (oi := ⟨some 9, _, _, _, _, _⟩) (v := ?_) rfl (by kernel_rfl) (by kernel_rfl) (by kernel_rfl) (fun _ _ _ h => h) (Or.inl ⟨by rfl, ?_⟩) (by assumption) ?_
  rotate_left
  · (intro u hu; (try dsimp only at hu); go_simp; (try with_reducible rfl))
  (try simp only [Act.put, List.setIfInBounds_toArray, List.set_cons_zero, List.set_cons_succ])
  refine wpAnyH_take (i := 7) (oi := ⟨some 10, _, _, _, _, _⟩) (v := ?_) rfl (by kernel_rfl) (by kernel_rfl) (by kernel_rfl) (fun _ _ _ h => h) (Or.inl ⟨by rfl, ?_⟩) (by assumption) ?_
  rotate_left
  · (intro u hu; (try dsimp only at hu); go_simp; (try with_reducible rfl))
  (try simp only [Act.put, List.setIfInBounds_toArray, List.set_cons_zero, List.set_cons_succ])
  refine wpAnyH_take (i := 9) (oi := ⟨some 12, _, _, _, _, _⟩) (v := ?_) rfl (by kernel_rfl) (by kernel_rfl) (by kernel_rfl) (fun _ _ _ h => h) (Or.inl ⟨by rfl, ?_⟩) (by assumption) ?_
  rotate_left
  · (intro u hu; (try dsimp only at hu); go_simp; (try with_reducible rfl))
  (try simp only [Act.put, List.setIfInBounds_toArray, List.set_cons_zero, List.set_cons_succ])
  refine wpAnyH_take (i := 10) (oi := ⟨some 13, _, _, _, _, _⟩) (v := ?_) rfl (by kernel_rfl) (by kernel_rfl) (by kernel_rfl) (fun _ _ _ h => h) (Or.inl ⟨by rfl, ?_⟩) (by assumption) ?_
  rotate_left
  · (intro u hu; (try dsimp only at hu); go_simp; (try with_reducible rfl))
  (try simp only [Act.put, List.setIfInBounds_toArray, List.set_cons_zero, List.set_cons_succ])
  refine wpAnyH_ready (rs := [2]) (by kernel_rfl) (by simp) ?_
  refine AllReadyH.cons (o := ⟨some 5, _, _, _, _, _⟩) rfl (fun K hK => ?_) AllReadyH.nil
  go_simp
  refine (num_s HR0.out).mono ?_
  rintro e w1 ⟨rfl, hR⟩
  have HR1 := Lib.hid hR
  clear hR
  go_wp2_with fail
  refine hK.out _ _ ?_ (fun hHeld => ?_)
  · exact HR1.out.cell (j := 0) HX.out hq
  clear hK K
  (try simp only [Act.put, List.setIfInBounds_toArray, List.set_cons_zero, List.set_cons_succ])
  refine wpAnyH_ready (rs := [5]) (by kernel_rfl) (by simp) ?_
  refine AllReadyH.cons (o := ⟨some 8, _, _, _, _, _⟩) rfl (fun K hK => ?_) AllReadyH.nil
  go_simp
  refine (num_s HR1.out).mono ?_
  rintro e w2 ⟨rfl, hR⟩
  have HR2 := Lib.hid hR
  clear hR
  go_wp2_with fail
  refine hK.out _ _ ?_ (fun hHeld => ?_)
  · exact HR2.out.cell (j := 0) HX.out hq
  clear hK K
  (try simp only [Act.put, List.setIfInBounds_toArray, List.set_cons_zero, List.set_cons_succ])
  refine wpAnyH_ready (rs := [8]) (by kernel_rfl) (by simp) ?_
  refine AllReadyH.cons (o := ⟨some 11, _, _, _, _, _⟩) rfl (fun K hK => ?_) AllReadyH.nil
  go_simp
  refine (num_s HR2.out).mono ?_
  rintro e w3 ⟨rfl, hR⟩
  have HR3 := Lib.hid hR
  clear hR
  go_wp2_with fail
  refine hK.out _ _ ?_ (fun hHeld => ?_)
  · exact HR3.out.cell (j := 0) HX.out hq
  clear hK K
  (try simp only [Act.put, List.setIfInBounds_toArray, List.set_cons_zero, List.set_cons_succ])
  refine wpAnyH_ready (rs := [11]) (by kernel_rfl) (by simp) ?_
  refine AllReadyH.cons (o := ⟨some 14, _, _, _, _, _⟩) rfl (fun K hK => ?_) AllReadyH.nil
  go_simp
  refine (num_s HR3.out).mono ?_
  rintro e w4 ⟨rfl, hR⟩
  have HR4 := Lib.hid hR
  clear hR
  go_wp2_with fail
  refine hK.out _ _ ?_ (fun hHeld => ?_)
  · exact HR4.out.cell (j := 0) HX.out hq
  clear hK K
  (try simp only [Act.put, List.setIfInBounds_toArray, List.set_cons_zero, List.set_cons_succ])
  refine wpAnyH_take (i := 12) (oi := ⟨some 15, _, _, _, _, _⟩) (v := ?_) rfl (by kernel_rfl) (by kernel_rfl) (by kernel_rfl) (fun _ _ _ h => h) (Or.inl ⟨by rfl, ?_⟩) (by assumption) ?_
  rotate_left
  · (intro u hu; (try dsimp only at hu); go_simp; (try with_reducible rfl))
  (try simp only [Act.put, List.setIfInBounds_toArray, List.set_cons_zero, List.set_cons_succ])
  refine wpAnyH_ready (rs := [13]) (by decide +kernel) (by simp) ?_
  refine AllReadyH.cons (o := ⟨none, _, _, _, _, _⟩) rfl (fun K hK => ?_) AllReadyH.nil
  rw [if_pos (by rfl)]
  refine oper_store 65 _ _ rfl (u.heap.size + 1) 65 _ #[.int .i64 (planQ l s).r, .int .i64 (planQ l s).b, .int .i64 (planQ l s).f, .int .i64 (planQ l s).c] rfl rfl (HR4.out.box HQ.out hq2) (by show (Try.prog.info? 65).map (·.size) = some 4; kernel_rfl) rfl (by simp [Value.oneCell']) ?_
  refine hK.out _ _ ?_ (fun hHeld => ?_)
  · exact cell_far (HR4.out.cell (j := 0) HX.out hq) (show u.heap.size ≠ u.heap.size + 1 by omega) _
  clear hK K
  (try simp only [Act.put])
  refine wpAnyH_done (by kernel_rfl) ?_ _
  go_wp2_with fail
  refine bodyPost_ret (results_cell_row rfl _ _ (u.heap.size + 1) 65 #[.int .i64 (planQ l s).r, .int .i64 (planQ l s).b, .int .i64 (planQ l s).f, .int .i64 (planQ l s).c] (0, 0) _ rfl (box_set (HR4.out.box HQ.out hq2) _) Try.underlying65 rfl (by show (Try.prog.info? 65).map (·.size) = some 4; kernel_rfl)) rfl ⟨rfl, ?_⟩
  exact (HU.out.trans HR4.out).row (by omega) _
set_option maxHeartbeats 4000000 in
set_option maxRecDepth 100000 in
theorem reply_s (h : RdAt W u g l s) : Calls Try.prog 51 #[.agg #[.pointer (some ⟨g, 0, none⟩)]] u fun e w' => e = .returned (.agg #[.int .i64 (replyQ l s).sg, .int .i64 (replyQ l s).sp, .bool (replyQ l s).un, .int .i64 (replyQ l s).tr, .bool (replyQ l s).good]) ∧ RdAt W w' g l (replyS l s) := by
  have HR := Lib.hid h
  have HR0 := Lib.hid ((RdAt.refl ((h.alloc (.cells #[.pointer (some ⟨g, 0, none⟩)] 80)).alloc (.cells #[.int .i64 0, .int .i64 0, .bool false, .int .i64 0, .bool false] 49)).rd (by have := h.lt; have := h.size; simp; omega)).drew)
  have HX := Lib.hid ((Box.new u 80 #[.pointer (some ⟨g, 0, none⟩)]).alloc (.cells #[.int .i64 0, .int .i64 0, .bool false, .int .i64 0, .bool false] 49))
  have HQ := Lib.hid (box_new2 u (.cells #[.pointer (some ⟨g, 0, none⟩)] 80) 49 #[.int .i64 0, .int .i64 0, .bool false, .int .i64 0, .bool false])
  have HU := Lib.hid ((h.alloc (.cells #[.pointer (some ⟨g, 0, none⟩)] 80)).alloc (.cells #[.int .i64 0, .int .i64 0, .bool false, .int .i64 0, .bool false] 49))
  have hs0 : ((u.alloc (.cells #[.pointer (some ⟨g, 0, none⟩)] 80)).alloc (.cells #[.int .i64 0, .int .i64 0, .bool false, .int .i64 0, .bool false] 49)).heap.size = u.heap.size + 2 := by simp
  have hq : u.heap.size ≠ g := by have := h.lt; have := h.size; omega
  have hq2 : u.heap.size + 1 ≠ g := by have := h.lt; have := h.size; omega
  have hW := h.size
  clear h
  go_enter Try.func51, Try.ntmps51
  go_upto_region 1 with fail
  generalize (u.alloc (.cells #[.pointer (some ⟨g, 0, none⟩)] 80)).alloc (.cells #[.int .i64 0, .int .i64 0, .bool false, .int .i64 0, .bool false] 49) = W0 at *
  refine wp_region_held_drew (S := fun v => v.cell? ⟨u.heap.size, 0, none⟩ = some (.pointer (some ⟨g, 0, none⟩))) (by kernel_rfl) (HR0.out.cell (j := 0) HX.out hq) (fun hHeld => ?_)
  refine wpAnyH_take (i := 0) (oi := ⟨some 3, _, _, _, _, _⟩) (v := ?_) rfl (by kernel_rfl) (by kernel_rfl) (by kernel_rfl) (fun _ _ _ h => h) (Or.inl ⟨by rfl, ?_⟩) (by assumption) ?_
  rotate_left
  · (intro u hu; (try dsimp only at hu); go_simp; (try with_reducible rfl))
  (try simp only [Act.put, List.setIfInBounds_toArray, List.set_cons_zero, List.set_cons_succ])
  refine wpAnyH_take (i := 1) (oi := ⟨some 4, _, _, _, _, _⟩) (v := ?_) rfl (by kernel_rfl) (by kernel_rfl) (by kernel_rfl) (fun _ _ _ h => h) (Or.inl ⟨by rfl, ?_⟩) (by assumption) ?_
  rotate_left
  · (intro u hu; (try dsimp only at hu); go_simp; (try with_reducible rfl))
  (try simp only [Act.put, List.setIfInBounds_toArray, List.set_cons_zero, List.set_cons_succ])
  refine wpAnyH_take (i := 3) (oi := ⟨some 6, _, _, _, _, _⟩) (v := ?_) rfl (by kernel_rfl) (by kernel_rfl) (by kernel_rfl) (fun _ _ _ h => h) (Or.inl ⟨by rfl, ?_⟩) (by assumption) ?_
  rotate_left
  · (intro u hu; (try dsimp only at hu); go_simp; (try with_reducible rfl))
  (try simp only [Act.put, List.setIfInBounds_toArray, List.set_cons_zero, List.set_cons_succ])
  refine wpAnyH_take (i := 4) (oi := ⟨some 7, _, _, _, _, _⟩) (v := ?_) rfl (by kernel_rfl) (by kernel_rfl) (by kernel_rfl) (fun _ _ _ h => h) (Or.inl ⟨by rfl, ?_⟩) (by assumption) ?_
  rotate_left
  · (intro u hu; (try dsimp only at hu); go_simp; (try with_reducible rfl))
  (try simp only [Act.put, List.setIfInBounds_toArray, List.set_cons_zero, List.set_cons_succ])
  refine wpAnyH_take (i := 6) (oi := ⟨some 9, _, _, _, _, _⟩) (v := ?_) rfl (by kernel_rfl) (by kernel_rfl) (by kernel_rfl) (fun _ _ _ h => h) (Or.inl ⟨by rfl, ?_⟩) (by assumption) ?_
  rotate_left
  · (intro u hu; (try dsimp only at hu); go_simp; (try with_reducible rfl))
  (try simp only [Act.put, List.setIfInBounds_toArray, List.set_cons_zero, List.set_cons_succ])
  refine wpAnyH_take (i := 7) (oi := ⟨some 10, _, _, _, _, _⟩) (v := ?_) rfl (by kernel_rfl) (by kernel_rfl) (by kernel_rfl) (fun _ _ _ h => h) (Or.inl ⟨by rfl, ?_⟩) (by assumption) ?_
  rotate_left
  · (intro u hu; (try dsimp only at hu); go_simp; (try with_reducible rfl))
  (try simp only [Act.put, List.setIfInBounds_toArray, List.set_cons_zero, List.set_cons_succ])
  refine wpAnyH_take (i := 9) (oi := ⟨some 12, _, _, _, _, _⟩) (v := ?_) rfl (by kernel_rfl) (by kernel_rfl) (by kernel_rfl) (fun _ _ _ h => h) (Or.inl ⟨by rfl, ?_⟩) (by assumption) ?_
  rotate_left
  · (intro u hu; (try dsimp only at hu); go_simp; (try with_reducible rfl))
  (try simp only [Act.put, List.setIfInBounds_toArray, List.set_cons_zero, List.set_cons_succ])
  refine wpAnyH_take (i := 10) (oi := ⟨some 13, _, _, _, _, _⟩) (v := ?_) rfl (by kernel_rfl) (by kernel_rfl) (by kernel_rfl) (fun _ _ _ h => h) (Or.inl ⟨by rfl, ?_⟩) (by assumption) ?_
  rotate_left
  · (intro u hu; (try dsimp only at hu); go_simp; (try with_reducible rfl))
  (try simp only [Act.put, List.setIfInBounds_toArray, List.set_cons_zero, List.set_cons_succ])
  refine wpAnyH_take (i := 12) (oi := ⟨some 15, _, _, _, _, _⟩) (v := ?_) rfl (by kernel_rfl) (by kernel_rfl) (by kernel_rfl) (fun _ _ _ h => h) (Or.inl ⟨by rfl, ?_⟩) (by assumption) ?_
  rotate_left
  · (intro u hu; (try dsimp only at hu); go_simp; (try with_reducible rfl))
  (try simp only [Act.put, List.setIfInBounds_toArray, List.set_cons_zero, List.set_cons_succ])
  refine wpAnyH_take (i := 13) (oi := ⟨some 16, _, _, _, _, _⟩) (v := ?_) rfl (by kernel_rfl) (by kernel_rfl) (by kernel_rfl) (fun _ _ _ h => h) (Or.inl ⟨by rfl, ?_⟩) (by assumption) ?_
  rotate_left
  · (intro u hu; (try dsimp only at hu); go_simp; (try with_reducible rfl))
  (try simp only [Act.put, List.setIfInBounds_toArray, List.set_cons_zero, List.set_cons_succ])
  refine wpAnyH_ready (rs := [2]) (by kernel_rfl) (by simp) ?_
  refine AllReadyH.cons (o := ⟨some 5, _, _, _, _, _⟩) rfl (fun K hK => ?_) AllReadyH.nil
  go_simp
  refine (num_s HR0.out).mono ?_
  rintro e w1 ⟨rfl, hR⟩
  have HR1 := Lib.hid hR
  clear hR
  go_wp2_with fail
  refine hK.out _ _ ?_ (fun hHeld => ?_)
  · exact HR1.out.cell (j := 0) HX.out hq
  clear hK K
  (try simp only [Act.put, List.setIfInBounds_toArray, List.set_cons_zero, List.set_cons_succ])
  refine wpAnyH_ready (rs := [5]) (by kernel_rfl) (by simp) ?_
  refine AllReadyH.cons (o := ⟨some 8, _, _, _, _, _⟩) rfl (fun K hK => ?_) AllReadyH.nil
  go_simp
  refine (num_s HR1.out).mono ?_
  rintro e w2 ⟨rfl, hR⟩
  have HR2 := Lib.hid hR
  clear hR
  go_wp2_with fail
  refine hK.out _ _ ?_ (fun hHeld => ?_)
  · exact HR2.out.cell (j := 0) HX.out hq
  clear hK K
  (try simp only [Act.put, List.setIfInBounds_toArray, List.set_cons_zero, List.set_cons_succ])
  refine wpAnyH_ready (rs := [8]) (by kernel_rfl) (by simp) ?_
  refine AllReadyH.cons (o := ⟨some 11, _, _, _, _, _⟩) rfl (fun K hK => ?_) AllReadyH.nil
  go_simp
  refine (flg_s HR2.out).mono ?_
  rintro e w3 ⟨rfl, hR⟩
  have HR3 := Lib.hid hR
  clear hR
  go_wp2_with fail
  refine hK.out _ _ ?_ (fun hHeld => ?_)
  · exact HR3.out.cell (j := 0) HX.out hq
  clear hK K
  (try simp only [Act.put, List.setIfInBounds_toArray, List.set_cons_zero, List.set_cons_succ])
  refine wpAnyH_ready (rs := [11]) (by kernel_rfl) (by simp) ?_
  refine AllReadyH.cons (o := ⟨some 14, _, _, _, _, _⟩) rfl (fun K hK => ?_) AllReadyH.nil
  go_simp
  refine (num_s HR3.out).mono ?_
  rintro e w4 ⟨rfl, hR⟩
  have HR4 := Lib.hid hR
  clear hR
  go_wp2_with fail
  refine hK.out _ _ ?_ (fun hHeld => ?_)
  · exact HR4.out.cell (j := 0) HX.out hq
  clear hK K
  (try simp only [Act.put, List.setIfInBounds_toArray, List.set_cons_zero, List.set_cons_succ])
  refine wpAnyH_ready (rs := [14]) (by kernel_rfl) (by simp) ?_
  refine AllReadyH.cons (o := ⟨some 17, _, _, _, _, _⟩) rfl (fun K hK => ?_) AllReadyH.nil
  go_simp
  refine (flg_s HR4.out).mono ?_
  rintro e w5 ⟨rfl, hR⟩
  have HR5 := Lib.hid hR
  clear hR
  go_wp2_with fail
  refine hK.out _ _ ?_ (fun hHeld => ?_)
  · exact HR5.out.cell (j := 0) HX.out hq
  clear hK K
  (try simp only [Act.put, List.setIfInBounds_toArray, List.set_cons_zero, List.set_cons_succ])
  refine wpAnyH_take (i := 15) (oi := ⟨some 18, _, _, _, _, _⟩) (v := ?_) rfl (by kernel_rfl) (by kernel_rfl) (by kernel_rfl) (fun _ _ _ h => h) (Or.inl ⟨by rfl, ?_⟩) (by assumption) ?_
  rotate_left
  · (intro u hu; (try dsimp only at hu); go_simp; (try with_reducible rfl))
  (try simp only [Act.put, List.setIfInBounds_toArray, List.set_cons_zero, List.set_cons_succ])
  refine wpAnyH_ready (rs := [16]) (by decide +kernel) (by simp) ?_
  refine AllReadyH.cons (o := ⟨none, _, _, _, _, _⟩) rfl (fun K hK => ?_) AllReadyH.nil
  rw [if_pos (by rfl)]
  refine oper_store 49 _ _ rfl (u.heap.size + 1) 49 _ #[.int .i64 (replyQ l s).sg, .int .i64 (replyQ l s).sp, .bool (replyQ l s).un, .int .i64 (replyQ l s).tr, .bool (replyQ l s).good] rfl rfl (HR5.out.box HQ.out hq2) (by show (Try.prog.info? 49).map (·.size) = some 5; kernel_rfl) rfl (by simp [Value.oneCell']) ?_
  refine hK.out _ _ ?_ (fun hHeld => ?_)
  · exact cell_far (HR5.out.cell (j := 0) HX.out hq) (show u.heap.size ≠ u.heap.size + 1 by omega) _
  clear hK K
  (try simp only [Act.put])
  refine wpAnyH_done (by kernel_rfl) ?_ _
  go_wp2_with fail
  refine bodyPost_ret (results_cell_row rfl _ _ (u.heap.size + 1) 49 #[.int .i64 (replyQ l s).sg, .int .i64 (replyQ l s).sp, .bool (replyQ l s).un, .int .i64 (replyQ l s).tr, .bool (replyQ l s).good] (0, 0) _ rfl (box_set (HR5.out.box HQ.out hq2) _) Try.underlying49 rfl (by show (Try.prog.info? 49).map (·.size) = some 5; kernel_rfl)) rfl ⟨rfl, ?_⟩
  exact (HU.out.trans HR5.out).row (by omega) _
set_option maxHeartbeats 4000000 in
set_option maxRecDepth 100000 in
theorem step_s (h : RdAt W u g l s) : Calls Try.prog 61 #[.agg #[.pointer (some ⟨g, 0, none⟩)]] u fun e w' => e = .returned (.agg #[.string (stepQ l s).nm, .string (stepQ l s).pt, .int .i64 (stepQ l s).tm, .int .i64 (stepQ l s).t.r, .int .i64 (stepQ l s).t.b, .int .i64 (stepQ l s).t.f, .int .i64 (stepQ l s).t.c, .int .i64 (stepQ l s).u.r, .int .i64 (stepQ l s).u.b, .int .i64 (stepQ l s).u.f, .int .i64 (stepQ l s).u.c, .int .i64 (stepQ l s).pr]) ∧ RdAt W w' g l (stepS l s) := by
  have HR := Lib.hid h
  have HR0 := Lib.hid ((RdAt.refl ((h.alloc (.cells #[.pointer (some ⟨g, 0, none⟩)] 80)).alloc (.cells #[.string ⟨#[]⟩, .string ⟨#[]⟩, .int .i64 0, .int .i64 0, .int .i64 0, .int .i64 0, .int .i64 0, .int .i64 0, .int .i64 0, .int .i64 0, .int .i64 0, .int .i64 0] 67)).rd (by have := h.lt; have := h.size; simp; omega)).drew)
  have HX := Lib.hid ((Box.new u 80 #[.pointer (some ⟨g, 0, none⟩)]).alloc (.cells #[.string ⟨#[]⟩, .string ⟨#[]⟩, .int .i64 0, .int .i64 0, .int .i64 0, .int .i64 0, .int .i64 0, .int .i64 0, .int .i64 0, .int .i64 0, .int .i64 0, .int .i64 0] 67))
  have HQ := Lib.hid (box_new2 u (.cells #[.pointer (some ⟨g, 0, none⟩)] 80) 67 #[.string ⟨#[]⟩, .string ⟨#[]⟩, .int .i64 0, .int .i64 0, .int .i64 0, .int .i64 0, .int .i64 0, .int .i64 0, .int .i64 0, .int .i64 0, .int .i64 0, .int .i64 0])
  have HU := Lib.hid ((h.alloc (.cells #[.pointer (some ⟨g, 0, none⟩)] 80)).alloc (.cells #[.string ⟨#[]⟩, .string ⟨#[]⟩, .int .i64 0, .int .i64 0, .int .i64 0, .int .i64 0, .int .i64 0, .int .i64 0, .int .i64 0, .int .i64 0, .int .i64 0, .int .i64 0] 67))
  have hs0 : ((u.alloc (.cells #[.pointer (some ⟨g, 0, none⟩)] 80)).alloc (.cells #[.string ⟨#[]⟩, .string ⟨#[]⟩, .int .i64 0, .int .i64 0, .int .i64 0, .int .i64 0, .int .i64 0, .int .i64 0, .int .i64 0, .int .i64 0, .int .i64 0, .int .i64 0] 67)).heap.size = u.heap.size + 2 := by simp
  have hq : u.heap.size ≠ g := by have := h.lt; have := h.size; omega
  have hq2 : u.heap.size + 1 ≠ g := by have := h.lt; have := h.size; omega
  have hW := h.size
  clear h
  go_enter Try.func61, Try.ntmps61
  go_upto_region 1 with fail
  generalize (u.alloc (.cells #[.pointer (some ⟨g, 0, none⟩)] 80)).alloc (.cells #[.string ⟨#[]⟩, .string ⟨#[]⟩, .int .i64 0, .int .i64 0, .int .i64 0, .int .i64 0, .int .i64 0, .int .i64 0, .int .i64 0, .int .i64 0, .int .i64 0, .int .i64 0] 67) = W0 at *
  refine wp_region_held_drew (S := fun v => v.cell? ⟨u.heap.size, 0, none⟩ = some (.pointer (some ⟨g, 0, none⟩))) (by kernel_rfl) (HR0.out.cell (j := 0) HX.out hq) (fun hHeld => ?_)
  refine wpAnyH_take (i := 0) (oi := ⟨some 3, _, _, _, _, _⟩) (v := ?_) rfl (by kernel_rfl) (by kernel_rfl) (by kernel_rfl) (fun _ _ _ h => h) (Or.inl ⟨by rfl, ?_⟩) (by assumption) ?_
  rotate_left
  · (intro u hu; (try dsimp only at hu); go_simp; (try with_reducible rfl))
  (try simp only [Act.put, List.setIfInBounds_toArray, List.set_cons_zero, List.set_cons_succ])
  refine wpAnyH_take (i := 2) (oi := ⟨some 5, _, _, _, _, _⟩) (v := ?_) rfl (by kernel_rfl) (by kernel_rfl) (by kernel_rfl) (fun _ _ _ h => h) (Or.inl ⟨by rfl, ?_⟩) (by assumption) ?_
  rotate_left
  · (intro u hu; (try dsimp only at hu); go_simp; (try with_reducible rfl))
  (try simp only [Act.put, List.setIfInBounds_toArray, List.set_cons_zero, List.set_cons_succ])
  refine wpAnyH_take (i := 4) (oi := ⟨some 7, _, _, _, _, _⟩) (v := ?_) rfl (by kernel_rfl) (by kernel_rfl) (by kernel_rfl) (fun _ _ _ h => h) (Or.inl ⟨by rfl, ?_⟩) (by assumption) ?_
  rotate_left
  · (intro u hu; (try dsimp only at hu); go_simp; (try with_reducible rfl))
  (try simp only [Act.put, List.setIfInBounds_toArray, List.set_cons_zero, List.set_cons_succ])
  refine wpAnyH_take (i := 5) (oi := ⟨some 8, _, _, _, _, _⟩) (v := ?_) rfl (by kernel_rfl) (by kernel_rfl) (by kernel_rfl) (fun _ _ _ h => h) (Or.inl ⟨by rfl, ?_⟩) (by assumption) ?_
  rotate_left
  · (intro u hu; (try dsimp only at hu); go_simp; (try with_reducible rfl))
  (try simp only [Act.put, List.setIfInBounds_toArray, List.set_cons_zero, List.set_cons_succ])
  refine wpAnyH_take (i := 7) (oi := ⟨some 10, _, _, _, _, _⟩) (v := ?_) rfl (by kernel_rfl) (by kernel_rfl) (by kernel_rfl) (fun _ _ _ h => h) (Or.inl ⟨by rfl, ?_⟩) (by assumption) ?_
  rotate_left
  · (intro u hu; (try dsimp only at hu); go_simp; (try with_reducible rfl))
  (try simp only [Act.put, List.setIfInBounds_toArray, List.set_cons_zero, List.set_cons_succ])
  refine wpAnyH_take (i := 9) (oi := ⟨some 12, _, _, _, _, _⟩) (v := ?_) rfl (by kernel_rfl) (by kernel_rfl) (by kernel_rfl) (fun _ _ _ h => h) (Or.inl ⟨by rfl, ?_⟩) (by assumption) ?_
  rotate_left
  · (intro u hu; (try dsimp only at hu); go_simp; (try with_reducible rfl))
  (try simp only [Act.put, List.setIfInBounds_toArray, List.set_cons_zero, List.set_cons_succ])
  refine wpAnyH_take (i := 11) (oi := ⟨some 14, _, _, _, _, _⟩) (v := ?_) rfl (by kernel_rfl) (by kernel_rfl) (by kernel_rfl) (fun _ _ _ h => h) (Or.inl ⟨by rfl, ?_⟩) (by assumption) ?_
  rotate_left
  · (intro u hu; (try dsimp only at hu); go_simp; (try with_reducible rfl))
  (try simp only [Act.put, List.setIfInBounds_toArray, List.set_cons_zero, List.set_cons_succ])
  refine wpAnyH_take (i := 12) (oi := ⟨some 15, _, _, _, _, _⟩) (v := ?_) rfl (by kernel_rfl) (by kernel_rfl) (by kernel_rfl) (fun _ _ _ h => h) (Or.inl ⟨by rfl, ?_⟩) (by assumption) ?_
  rotate_left
  · (intro u hu; (try dsimp only at hu); go_simp; (try with_reducible rfl))
  (try simp only [Act.put, List.setIfInBounds_toArray, List.set_cons_zero, List.set_cons_succ])
  refine wpAnyH_ready (rs := [1]) (by kernel_rfl) (by simp) ?_
  refine AllReadyH.cons (o := ⟨some 4, _, _, _, _, _⟩) rfl (fun K hK => ?_) AllReadyH.nil
  go_simp
  refine (text_s HR0.out).mono ?_
  rintro e w1 ⟨rfl, hR⟩
  have HR1 := Lib.hid hR
  clear hR
  go_wp2_with fail
  refine hK.out _ _ ?_ (fun hHeld => ?_)
  · exact HR1.out.cell (j := 0) HX.out hq
  clear hK K
  (try simp only [Act.put, List.setIfInBounds_toArray, List.set_cons_zero, List.set_cons_succ])
  refine wpAnyH_ready (rs := [3]) (by kernel_rfl) (by simp) ?_
  refine AllReadyH.cons (o := ⟨some 6, _, _, _, _, _⟩) rfl (fun K hK => ?_) AllReadyH.nil
  go_simp
  refine (text_s HR1.out).mono ?_
  rintro e w2 ⟨rfl, hR⟩
  have HR2 := Lib.hid hR
  clear hR
  go_wp2_with fail
  refine hK.out _ _ ?_ (fun hHeld => ?_)
  · exact HR2.out.cell (j := 0) HX.out hq
  clear hK K
  (try simp only [Act.put, List.setIfInBounds_toArray, List.set_cons_zero, List.set_cons_succ])
  refine wpAnyH_ready (rs := [6]) (by kernel_rfl) (by simp) ?_
  refine AllReadyH.cons (o := ⟨some 9, _, _, _, _, _⟩) rfl (fun K hK => ?_) AllReadyH.nil
  go_simp
  refine (num_s HR2.out).mono ?_
  rintro e w3 ⟨rfl, hR⟩
  have HR3 := Lib.hid hR
  clear hR
  go_wp2_with fail
  refine hK.out _ _ ?_ (fun hHeld => ?_)
  · exact HR3.out.cell (j := 0) HX.out hq
  clear hK K
  (try simp only [Act.put, List.setIfInBounds_toArray, List.set_cons_zero, List.set_cons_succ])
  refine wpAnyH_ready (rs := [8]) (by kernel_rfl) (by simp) ?_
  refine AllReadyH.cons (o := ⟨some 11, _, _, _, _, _⟩) rfl (fun K hK => ?_) AllReadyH.nil
  go_simp
  refine (plan_s HR3.out).mono ?_
  rintro e w4 ⟨rfl, hR⟩
  have HR4 := Lib.hid hR
  clear hR
  go_wp2_with fail
  refine hK.out _ _ ?_ (fun hHeld => ?_)
  · exact HR4.out.cell (j := 0) HX.out hq
  clear hK K
  (try simp only [Act.put, List.setIfInBounds_toArray, List.set_cons_zero, List.set_cons_succ])
  refine wpAnyH_ready (rs := [10]) (by kernel_rfl) (by simp) ?_
  refine AllReadyH.cons (o := ⟨some 13, _, _, _, _, _⟩) rfl (fun K hK => ?_) AllReadyH.nil
  go_simp
  refine (plan_s HR4.out).mono ?_
  rintro e w5 ⟨rfl, hR⟩
  have HR5 := Lib.hid hR
  clear hR
  go_wp2_with fail
  refine hK.out _ _ ?_ (fun hHeld => ?_)
  · exact HR5.out.cell (j := 0) HX.out hq
  clear hK K
  (try simp only [Act.put, List.setIfInBounds_toArray, List.set_cons_zero, List.set_cons_succ])
  refine wpAnyH_ready (rs := [13]) (by kernel_rfl) (by simp) ?_
  refine AllReadyH.cons (o := ⟨some 16, _, _, _, _, _⟩) rfl (fun K hK => ?_) AllReadyH.nil
  go_simp
  refine (num_s HR5.out).mono ?_
  rintro e w6 ⟨rfl, hR⟩
  have HR6 := Lib.hid hR
  clear hR
  go_wp2_with fail
  refine hK.out _ _ ?_ (fun hHeld => ?_)
  · exact HR6.out.cell (j := 0) HX.out hq
  clear hK K
  (try simp only [Act.put, List.setIfInBounds_toArray, List.set_cons_zero, List.set_cons_succ])
  refine wpAnyH_take (i := 14) (oi := ⟨some 17, _, _, _, _, _⟩) (v := ?_) rfl (by kernel_rfl) (by kernel_rfl) (by kernel_rfl) (fun _ _ _ h => h) (Or.inl ⟨by rfl, ?_⟩) (by assumption) ?_
  rotate_left
  · (intro u hu; (try dsimp only at hu); go_simp; (try with_reducible rfl))
  (try simp only [Act.put, List.setIfInBounds_toArray, List.set_cons_zero, List.set_cons_succ])
  refine wpAnyH_ready (rs := [15]) (by decide +kernel) (by simp) ?_
  refine AllReadyH.cons (o := ⟨none, _, _, _, _, _⟩) rfl (fun K hK => ?_) AllReadyH.nil
  rw [if_pos (by rfl)]
  refine oper_store 67 _ _ rfl (u.heap.size + 1) 67 _ #[.string (stepQ l s).nm, .string (stepQ l s).pt, .int .i64 (stepQ l s).tm, .int .i64 (stepQ l s).t.r, .int .i64 (stepQ l s).t.b, .int .i64 (stepQ l s).t.f, .int .i64 (stepQ l s).t.c, .int .i64 (stepQ l s).u.r, .int .i64 (stepQ l s).u.b, .int .i64 (stepQ l s).u.f, .int .i64 (stepQ l s).u.c, .int .i64 (stepQ l s).pr] rfl rfl (HR6.out.box HQ.out hq2) (by show (Try.prog.info? 67).map (·.size) = some 12; kernel_rfl) rfl (by simp [Value.oneCell']) ?_
  refine hK.out _ _ ?_ (fun hHeld => ?_)
  · exact cell_far (HR6.out.cell (j := 0) HX.out hq) (show u.heap.size ≠ u.heap.size + 1 by omega) _
  clear hK K
  (try simp only [Act.put])
  refine wpAnyH_done (by kernel_rfl) ?_ _
  go_wp2_with fail
  refine bodyPost_ret (results_cell_row rfl _ _ (u.heap.size + 1) 67 #[.string (stepQ l s).nm, .string (stepQ l s).pt, .int .i64 (stepQ l s).tm, .int .i64 (stepQ l s).t.r, .int .i64 (stepQ l s).t.b, .int .i64 (stepQ l s).t.f, .int .i64 (stepQ l s).t.c, .int .i64 (stepQ l s).u.r, .int .i64 (stepQ l s).u.b, .int .i64 (stepQ l s).u.f, .int .i64 (stepQ l s).u.c, .int .i64 (stepQ l s).pr] (0, 0) _ rfl (box_set (HR6.out.box HQ.out hq2) _) Try.underlying67 rfl (by show (Try.prog.info? 67).map (·.size) = some 12; kernel_rfl)) rfl ⟨rfl, ?_⟩
  exact (HU.out.trans HR6.out).row (by omega) _
end
end Go.Proofs.Ytihkadbcjeohjaa.Co
