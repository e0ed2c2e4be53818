/-
  What 'taken' answers: what a reader took, if it took all there was, and that may be.
  Conditions: the reader is one of bytes, at most 2^40.
-/
import Derived.Test.YtihkadbcjeohjaaCodTake
import Derived.Test.YtihkadbcjeohjaaCodEvMath
namespace Go.Proofs.Ytihkadbcjeohjaa.Co
open Go.RowKit
open Go.Proofs.Ytihkadbcjeohjaa.El
open Go.Proofs.Ytihkadbcjeohjaa.Df
open Go.Proofs.Ytihkadbcjeohjaa.Bo (P Made ret_int ret_bool)
open Go.Proofs.Ytihkadbcjeohjaa.Sa (Sg Rp)

theorem results_ctt {fn : Func} {p u v : Tmp} {ty : TypeId} (h : fn.results = #[.cell p ty, .tmp u, .tmp v]) (tmps : Array Value) (P : Program) (w : World) :
    (results fn tmps).run P w = ((asAddr (tmps.getD p undef)).run P w).andThen fun a w₁ => ((loadVar ty a).run P w₁).andThen fun x w₂ => .ok (.tuple #[x, tmps.getD u undef, tmps.getD v undef]) w₂ := by
  simp only [results, h]
  simp [Sem.run_bind, Result.andThen]
  repeat' (split; · rfl)
  all_goals rfl
theorem res_ctt {fn : Func} {p u v : Tmp} {ty : TypeId} {fs : Array Field} (h : fn.results = #[.cell p ty, .tmp u, .tmp v]) (tmps : Array Value) (w : World) (g : Nat) (cs : Array Value) (hu : Try.prog.underlying ty = some (.struct fs)) (hi : (Try.prog.info? ty).map (·.size) = some cs.size)
    (hp : tmps.getD p undef = .pointer (some ⟨g, 0, none⟩)) (hg : Box w g ty cs) : (results fn tmps).run Try.prog w = .ok (.tuple #[.agg cs, tmps.getD u undef, tmps.getD v undef]) w := by
  rw [results_ctt h, hp]
  simp only [asAddr, Sem.run_pure, Result.andThen_ok, run_loadVar_row w g _ ty _ _ _ hg hu rfl hi]
/-- what is answered -/
def takenV (t : Ps) (may : Bool) (zero x : Value) : Value :=
  .tuple #[if t.e ≠ 0 ∨ may = false then zero else x, .int .i64 ((if t.e ≠ 0 then t.o else 0 : Nat) : Int), .int .i64 ((if t.e ≠ 0 then t.e else if may = false then 11 else 0 : Nat) : Int)]
theorem takenV_err {t : Ps} (h : t.e ≠ 0) (may : Bool) (zero x : Value) : takenV t may zero x = .tuple #[zero, .int .i64 (t.o : Int), .int .i64 (t.e : Int)] := by
  unfold takenV
  rw [if_pos (.inl h), if_pos h, if_pos h]
theorem takenV_no {t : Ps} (h : t.e = 0) (zero x : Value) : takenV t false zero x = .tuple #[zero, .int .i64 0, .int .i64 11] := by
  unfold takenV
  rw [if_pos (.inr rfl), if_neg (by omega), if_neg (by omega), if_pos rfl]
  rfl
theorem takenV_yes {t : Ps} (h : t.e = 0) (zero x : Value) : takenV t true zero x = .tuple #[x, .int .i64 0, .int .i64 0] := by
  unfold takenV
  rw [if_neg (by simp [h]), if_neg (by omega), if_neg (by omega), if_neg (by decide)]
  rfl
theorem al4 (w : World) (a b c d : Obj) : ((((w.alloc a).alloc b).alloc c).alloc d).heap.size = w.heap.size + 4 := by simp
theorem box4 (w : World) (t0 t1 t2 t3 : TypeId) (c0 c1 c2 c3 : Array Value) :
    Box ((((w.alloc (.cells c0 t0)).alloc (.cells c1 t1)).alloc (.cells c2 t2)).alloc (.cells c3 t3)) w.heap.size t0 c0 ∧ Box ((((w.alloc (.cells c0 t0)).alloc (.cells c1 t1)).alloc (.cells c2 t2)).alloc (.cells c3 t3)) (w.heap.size + 1) t1 c1 ∧
      Box ((((w.alloc (.cells c0 t0)).alloc (.cells c1 t1)).alloc (.cells c2 t2)).alloc (.cells c3 t3)) (w.heap.size + 2) t2 c2 ∧ Box ((((w.alloc (.cells c0 t0)).alloc (.cells c1 t1)).alloc (.cells c2 t2)).alloc (.cells c3 t3)) (w.heap.size + 3) t3 c3 := by
  refine ⟨(((Box.new w t0 c0).alloc _).alloc _).alloc _, ((box_new2 w _ t1 c1).alloc _).alloc _, ?_, ?_⟩
  · have := (Box.new ((w.alloc (.cells c0 t0)).alloc (.cells c1 t1)) t2 c2).alloc (.cells c3 t3)
    simpa using this
  · have := Box.new (((w.alloc (.cells c0 t0)).alloc (.cells c1 t1)).alloc (.cells c2 t2)) t3 c3
    simpa using this
section
variable {W u : World} {g : Nat} {l : List UInt8} {s : Ps}
set_option maxHeartbeats 4000000 in
set_option maxRecDepth 100000 in
theorem taken_def (nm : ByteArray) (dl : Int) (A : Option Addr) (n c : Nat) (may : Bool) (h : RdAt W u g l s) : Calls Try.prog 33 #[.agg #[.pointer (some ⟨g, 0, none⟩)], .agg #[.string nm, .int .i64 dl, .slice A n c], .bool may] u fun e w' => e = .returned (takenV (endS l s) may (.agg #[.string ⟨#[]⟩, .int .i64 0, .slice none 0 0]) (.agg #[.string nm, .int .i64 dl, .slice A n c])) ∧ RdAt W w' g l (endS l s) := by
  have HR0 := Lib.hid (RdAt.refl ((((h.alloc (.cells #[.pointer (some ⟨g, 0, none⟩)] 80)).alloc (.cells #[.string nm, .int .i64 dl, .slice A n c] 24)).alloc (.cells #[.string ⟨#[]⟩, .int .i64 0, .slice none 0 0] 24)).alloc (.cells #[.string ⟨#[]⟩, .int .i64 0, .slice none 0 0] 24)).rd (by have := h.lt; have := h.size; rw [al4]; omega))
  have HU := Lib.hid ((((h.alloc (.cells #[.pointer (some ⟨g, 0, none⟩)] 80)).alloc (.cells #[.string nm, .int .i64 dl, .slice A n c] 24)).alloc (.cells #[.string ⟨#[]⟩, .int .i64 0, .slice none 0 0] 24)).alloc (.cells #[.string ⟨#[]⟩, .int .i64 0, .slice none 0 0] 24))
  obtain ⟨hx0, hx1, hx2, hx3⟩ := box4 u 80 24 24 24 #[.pointer (some ⟨g, 0, none⟩)] #[.string nm, .int .i64 dl, .slice A n c] #[.string ⟨#[]⟩, .int .i64 0, .slice none 0 0] #[.string ⟨#[]⟩, .int .i64 0, .slice none 0 0]
  have HX0 := Lib.hid hx0
  have HX1 := Lib.hid hx1
  have HX2 := Lib.hid hx2
  have HX3 := Lib.hid hx3
  have hW := h.size
  have hl := h.lt
  have hs0 := al4 u (.cells #[.pointer (some ⟨g, 0, none⟩)] 80) (.cells #[.string nm, .int .i64 dl, .slice A n c] 24) (.cells #[.string ⟨#[]⟩, .int .i64 0, .slice none 0 0] 24) (.cells #[.string ⟨#[]⟩, .int .i64 0, .slice none 0 0] 24)
  clear h hx0 hx1 hx2 hx3
  by_cases hE : (endS l s).e = 0
  · cases may with
    | true =>
      rw [takenV_yes hE]
      have HE := Lib.hid (decide_eq_true hE)
      clear hE
      go_enter Try.func33, Try.ntmps33
      go_wp2_with fail
      generalize (((u.alloc (.cells #[.pointer (some ⟨g, 0, none⟩)] 80)).alloc (.cells #[.string nm, .int .i64 dl, .slice A n c] 24)).alloc (.cells #[.string ⟨#[]⟩, .int .i64 0, .slice none 0 0] 24)).alloc (.cells #[.string ⟨#[]⟩, .int .i64 0, .slice none 0 0] 24) = W0 at *
      refine (end_s HR0.out).mono ?_
      rintro e w1 ⟨rfl, hR⟩
      have HR := Lib.hid hR
      rw [HE.out]
      have HB1 := Lib.hid (hR.box HX1.out (by omega))
      have HB2 := Lib.hid (hR.box HX2.out (by omega))
      clear hR
      go_wp2_with (first
        | (refine wpList_load_row rfl 24 (.tmp 4) rfl (u.heap.size + 1) 24 #[.string nm, .int .i64 dl, .slice A n c] _ rfl HB1.out Try.underlying24 rfl (by show (Try.prog.info? 24).map (·.size) = some 3; kernel_rfl) ?_)
        | (refine wpList_store_row rfl 24 (.tmp 6) (.tmp 28) rfl (u.heap.size + 2) 24 _ #[.string nm, .int .i64 dl, .slice A n c] rfl rfl HB2.out (by show (Try.prog.info? 24).map (·.size) = some 3; kernel_rfl) rfl (by simp [Value.oneCell']) ?_))
      refine bodyPost_ret (res_ctt rfl _ _ (u.heap.size + 2) #[.string nm, .int .i64 dl, .slice A n c] Try.underlying24 (by show (Try.prog.info? 24).map (·.size) = some 3; kernel_rfl) rfl (box_set HB2.out _)) rfl ⟨rfl, ?_⟩
      exact (HU.out.trans HR.out).row (by omega) _
    | false =>
      rw [takenV_no hE]
      have HE := Lib.hid (decide_eq_true hE)
      clear hE
      go_enter Try.func33, Try.ntmps33
      go_wp2_with fail
      generalize (((u.alloc (.cells #[.pointer (some ⟨g, 0, none⟩)] 80)).alloc (.cells #[.string nm, .int .i64 dl, .slice A n c] 24)).alloc (.cells #[.string ⟨#[]⟩, .int .i64 0, .slice none 0 0] 24)).alloc (.cells #[.string ⟨#[]⟩, .int .i64 0, .slice none 0 0] 24) = W0 at *
      refine (end_s HR0.out).mono ?_
      rintro e w1 ⟨rfl, hR⟩
      have HR := Lib.hid hR
      rw [HE.out]
      have HB3 := Lib.hid (hR.box HX3.out (by omega))
      have HB2 := Lib.hid (hR.box HX2.out (by omega))
      clear hR
      go_wp2_with (first
        | (refine wpList_load_row rfl 24 (.tmp 9) rfl (u.heap.size + 3) 24 #[.string ⟨#[]⟩, .int .i64 0, .slice none 0 0] _ rfl HB3.out Try.underlying24 rfl (by show (Try.prog.info? 24).map (·.size) = some 3; kernel_rfl) ?_)
        | (refine wpList_store_row rfl 24 (.tmp 6) (.tmp 27) rfl (u.heap.size + 2) 24 _ #[.string ⟨#[]⟩, .int .i64 0, .slice none 0 0] rfl rfl HB2.out (by show (Try.prog.info? 24).map (·.size) = some 3; kernel_rfl) rfl (by simp [Value.oneCell']) ?_))
      refine bodyPost_ret (res_ctt rfl _ _ (u.heap.size + 2) #[.string ⟨#[]⟩, .int .i64 0, .slice none 0 0] Try.underlying24 (by show (Try.prog.info? 24).map (·.size) = some 3; kernel_rfl) rfl (box_set HB2.out _)) rfl ⟨rfl, ?_⟩
      exact (HU.out.trans HR.out).row (by omega) _
  · rw [takenV_err hE]
    have HE := Lib.hid (decide_eq_false hE)
    have c0 : ∀ w1, RdAt ((((u.alloc (.cells #[.pointer (some ⟨g, 0, none⟩)] 80)).alloc (.cells #[.string nm, .int .i64 dl, .slice A n c] 24)).alloc (.cells #[.string ⟨#[]⟩, .int .i64 0, .slice none 0 0] 24)).alloc (.cells #[.string ⟨#[]⟩, .int .i64 0, .slice none 0 0] 24)) w1 g l (endS l s) → w1.cell? ⟨u.heap.size, 0, none⟩ = some (.pointer (some ⟨g, 0, none⟩)) := fun w1 hR => hR.cell (j := 0) HX0.out (by omega)
    have HC0 := Lib.hid c0
    clear hE c0
    go_enter Try.func33, Try.ntmps33
    go_wp2_with fail
    generalize (((u.alloc (.cells #[.pointer (some ⟨g, 0, none⟩)] 80)).alloc (.cells #[.string nm, .int .i64 dl, .slice A n c] 24)).alloc (.cells #[.string ⟨#[]⟩, .int .i64 0, .slice none 0 0] 24)).alloc (.cells #[.string ⟨#[]⟩, .int .i64 0, .slice none 0 0] 24) = W0 at *
    refine (end_s HR0.out).mono ?_
    rintro e w1 ⟨rfl, hR⟩
    have HR := Lib.hid hR
    rw [HE.out]
    have HB3 := Lib.hid (hR.box HX3.out (by omega))
    have HB2 := Lib.hid (hR.box HX2.out (by omega))
    have c0 := HC0.out w1 hR
    clear hR
    go_wp2_with fail
    refine (err_s HR.out).mono ?_
    rintro e w2 ⟨rfl, m, rfl⟩
    have HB4 := Lib.hid (HB3.out.drewN m)
    have HB5 := Lib.hid (HB2.out.drewN m)
    have HR2 := Lib.hid (HR.out.drewN m)
    generalize w1.drewN m = w2 at *
    go_wp2_with (first
      | (refine wpList_load_row rfl 24 (.tmp 9) rfl (u.heap.size + 3) 24 #[.string ⟨#[]⟩, .int .i64 0, .slice none 0 0] _ rfl HB4.out Try.underlying24 rfl (by show (Try.prog.info? 24).map (·.size) = some 3; kernel_rfl) ?_)
      | (refine wpList_store_row rfl 24 (.tmp 6) (.tmp 22) rfl (u.heap.size + 2) 24 _ #[.string ⟨#[]⟩, .int .i64 0, .slice none 0 0] rfl rfl HB5.out (by show (Try.prog.info? 24).map (·.size) = some 3; kernel_rfl) rfl (by simp [Value.oneCell']) ?_))
    refine bodyPost_ret (res_ctt rfl _ _ (u.heap.size + 2) #[.string ⟨#[]⟩, .int .i64 0, .slice none 0 0] Try.underlying24 (by show (Try.prog.info? 24).map (·.size) = some 3; kernel_rfl) rfl (box_set HB5.out _)) rfl ⟨rfl, ?_⟩
    exact (HU.out.trans HR2.out).row (by omega) _

set_option maxHeartbeats 4000000 in
set_option maxRecDepth 100000 in
theorem taken_saga (x : Sg) (may : Bool) (h : RdAt W u g l s) : Calls Try.prog 45 #[.agg #[.pointer (some ⟨g, 0, none⟩)], .agg #[.int .i64 x.id, .string x.dn, .int .i64 x.st, .int .i64 x.ph, .int .i64 x.sp, .int .i64 x.tr, .bool x.out, .int .i64 x.at_, .int .i64 x.sk], .bool may] u fun e w' => e = .returned (takenV (endS l s) may (.agg #[.int .i64 0, .string ⟨#[]⟩, .int .i64 0, .int .i64 0, .int .i64 0, .int .i64 0, .bool false, .int .i64 0, .int .i64 0]) (.agg #[.int .i64 x.id, .string x.dn, .int .i64 x.st, .int .i64 x.ph, .int .i64 x.sp, .int .i64 x.tr, .bool x.out, .int .i64 x.at_, .int .i64 x.sk])) ∧ RdAt W w' g l (endS l s) := by
  have HR0 := Lib.hid (RdAt.refl ((((h.alloc (.cells #[.pointer (some ⟨g, 0, none⟩)] 80)).alloc (.cells #[.int .i64 x.id, .string x.dn, .int .i64 x.st, .int .i64 x.ph, .int .i64 x.sp, .int .i64 x.tr, .bool x.out, .int .i64 x.at_, .int .i64 x.sk] 40)).alloc (.cells #[.int .i64 0, .string ⟨#[]⟩, .int .i64 0, .int .i64 0, .int .i64 0, .int .i64 0, .bool false, .int .i64 0, .int .i64 0] 40)).alloc (.cells #[.int .i64 0, .string ⟨#[]⟩, .int .i64 0, .int .i64 0, .int .i64 0, .int .i64 0, .bool false, .int .i64 0, .int .i64 0] 40)).rd (by have := h.lt; have := h.size; rw [al4]; omega))
  have HU := Lib.hid ((((h.alloc (.cells #[.pointer (some ⟨g, 0, none⟩)] 80)).alloc (.cells #[.int .i64 x.id, .string x.dn, .int .i64 x.st, .int .i64 x.ph, .int .i64 x.sp, .int .i64 x.tr, .bool x.out, .int .i64 x.at_, .int .i64 x.sk] 40)).alloc (.cells #[.int .i64 0, .string ⟨#[]⟩, .int .i64 0, .int .i64 0, .int .i64 0, .int .i64 0, .bool false, .int .i64 0, .int .i64 0] 40)).alloc (.cells #[.int .i64 0, .string ⟨#[]⟩, .int .i64 0, .int .i64 0, .int .i64 0, .int .i64 0, .bool false, .int .i64 0, .int .i64 0] 40))
  obtain ⟨hx0, hx1, hx2, hx3⟩ := box4 u 80 40 40 40 #[.pointer (some ⟨g, 0, none⟩)] #[.int .i64 x.id, .string x.dn, .int .i64 x.st, .int .i64 x.ph, .int .i64 x.sp, .int .i64 x.tr, .bool x.out, .int .i64 x.at_, .int .i64 x.sk] #[.int .i64 0, .string ⟨#[]⟩, .int .i64 0, .int .i64 0, .int .i64 0, .int .i64 0, .bool false, .int .i64 0, .int .i64 0] #[.int .i64 0, .string ⟨#[]⟩, .int .i64 0, .int .i64 0, .int .i64 0, .int .i64 0, .bool false, .int .i64 0, .int .i64 0]
  have HX0 := Lib.hid hx0
  have HX1 := Lib.hid hx1
  have HX2 := Lib.hid hx2
  have HX3 := Lib.hid hx3
  have hW := h.size
  have hl := h.lt
  have hs0 := al4 u (.cells #[.pointer (some ⟨g, 0, none⟩)] 80) (.cells #[.int .i64 x.id, .string x.dn, .int .i64 x.st, .int .i64 x.ph, .int .i64 x.sp, .int .i64 x.tr, .bool x.out, .int .i64 x.at_, .int .i64 x.sk] 40) (.cells #[.int .i64 0, .string ⟨#[]⟩, .int .i64 0, .int .i64 0, .int .i64 0, .int .i64 0, .bool false, .int .i64 0, .int .i64 0] 40) (.cells #[.int .i64 0, .string ⟨#[]⟩, .int .i64 0, .int .i64 0, .int .i64 0, .int .i64 0, .bool false, .int .i64 0, .int .i64 0] 40)
  clear h hx0 hx1 hx2 hx3
  by_cases hE : (endS l s).e = 0
  · cases may with
    | true =>
      rw [takenV_yes hE]
      have HE := Lib.hid (decide_eq_true hE)
      clear hE
      go_enter Try.func45, Try.ntmps45
      go_wp2_with fail
      generalize (((u.alloc (.cells #[.pointer (some ⟨g, 0, none⟩)] 80)).alloc (.cells #[.int .i64 x.id, .string x.dn, .int .i64 x.st, .int .i64 x.ph, .int .i64 x.sp, .int .i64 x.tr, .bool x.out, .int .i64 x.at_, .int .i64 x.sk] 40)).alloc (.cells #[.int .i64 0, .string ⟨#[]⟩, .int .i64 0, .int .i64 0, .int .i64 0, .int .i64 0, .bool false, .int .i64 0, .int .i64 0] 40)).alloc (.cells #[.int .i64 0, .string ⟨#[]⟩, .int .i64 0, .int .i64 0, .int .i64 0, .int .i64 0, .bool false, .int .i64 0, .int .i64 0] 40) = W0 at *
      refine (end_s HR0.out).mono ?_
      rintro e w1 ⟨rfl, hR⟩
      have HR := Lib.hid hR
      rw [HE.out]
      have HB1 := Lib.hid (hR.box HX1.out (by omega))
      have HB2 := Lib.hid (hR.box HX2.out (by omega))
      clear hR
      go_wp2_with (first
        | (refine wpList_load_row rfl 40 (.tmp 4) rfl (u.heap.size + 1) 40 #[.int .i64 x.id, .string x.dn, .int .i64 x.st, .int .i64 x.ph, .int .i64 x.sp, .int .i64 x.tr, .bool x.out, .int .i64 x.at_, .int .i64 x.sk] _ rfl HB1.out Try.underlying40 rfl (by show (Try.prog.info? 40).map (·.size) = some 9; kernel_rfl) ?_)
        | (refine wpList_store_row rfl 40 (.tmp 6) (.tmp 28) rfl (u.heap.size + 2) 40 _ #[.int .i64 x.id, .string x.dn, .int .i64 x.st, .int .i64 x.ph, .int .i64 x.sp, .int .i64 x.tr, .bool x.out, .int .i64 x.at_, .int .i64 x.sk] rfl rfl HB2.out (by show (Try.prog.info? 40).map (·.size) = some 9; kernel_rfl) rfl (by simp [Value.oneCell']) ?_))
      refine bodyPost_ret (res_ctt rfl _ _ (u.heap.size + 2) #[.int .i64 x.id, .string x.dn, .int .i64 x.st, .int .i64 x.ph, .int .i64 x.sp, .int .i64 x.tr, .bool x.out, .int .i64 x.at_, .int .i64 x.sk] Try.underlying40 (by show (Try.prog.info? 40).map (·.size) = some 9; kernel_rfl) rfl (box_set HB2.out _)) rfl ⟨rfl, ?_⟩
      exact (HU.out.trans HR.out).row (by omega) _
    | false =>
      rw [takenV_no hE]
      have HE := Lib.hid (decide_eq_true hE)
      clear hE
      go_enter Try.func45, Try.ntmps45
      go_wp2_with fail
      generalize (((u.alloc (.cells #[.pointer (some ⟨g, 0, none⟩)] 80)).alloc (.cells #[.int .i64 x.id, .string x.dn, .int .i64 x.st, .int .i64 x.ph, .int .i64 x.sp, .int .i64 x.tr, .bool x.out, .int .i64 x.at_, .int .i64 x.sk] 40)).alloc (.cells #[.int .i64 0, .string ⟨#[]⟩, .int .i64 0, .int .i64 0, .int .i64 0, .int .i64 0, .bool false, .int .i64 0, .int .i64 0] 40)).alloc (.cells #[.int .i64 0, .string ⟨#[]⟩, .int .i64 0, .int .i64 0, .int .i64 0, .int .i64 0, .bool false, .int .i64 0, .int .i64 0] 40) = W0 at *
      refine (end_s HR0.out).mono ?_
      rintro e w1 ⟨rfl, hR⟩
      have HR := Lib.hid hR
      rw [HE.out]
      have HB3 := Lib.hid (hR.box HX3.out (by omega))
      have HB2 := Lib.hid (hR.box HX2.out (by omega))
      clear hR
      go_wp2_with (first
        | (refine wpList_load_row rfl 40 (.tmp 9) rfl (u.heap.size + 3) 40 #[.int .i64 0, .string ⟨#[]⟩, .int .i64 0, .int .i64 0, .int .i64 0, .int .i64 0, .bool false, .int .i64 0, .int .i64 0] _ rfl HB3.out Try.underlying40 rfl (by show (Try.prog.info? 40).map (·.size) = some 9; kernel_rfl) ?_)
        | (refine wpList_store_row rfl 40 (.tmp 6) (.tmp 27) rfl (u.heap.size + 2) 40 _ #[.int .i64 0, .string ⟨#[]⟩, .int .i64 0, .int .i64 0, .int .i64 0, .int .i64 0, .bool false, .int .i64 0, .int .i64 0] rfl rfl HB2.out (by show (Try.prog.info? 40).map (·.size) = some 9; kernel_rfl) rfl (by simp [Value.oneCell']) ?_))
      refine bodyPost_ret (res_ctt rfl _ _ (u.heap.size + 2) #[.int .i64 0, .string ⟨#[]⟩, .int .i64 0, .int .i64 0, .int .i64 0, .int .i64 0, .bool false, .int .i64 0, .int .i64 0] Try.underlying40 (by show (Try.prog.info? 40).map (·.size) = some 9; kernel_rfl) rfl (box_set HB2.out _)) rfl ⟨rfl, ?_⟩
      exact (HU.out.trans HR.out).row (by omega) _
  · rw [takenV_err hE]
    have HE := Lib.hid (decide_eq_false hE)
    have c0 : ∀ w1, RdAt ((((u.alloc (.cells #[.pointer (some ⟨g, 0, none⟩)] 80)).alloc (.cells #[.int .i64 x.id, .string x.dn, .int .i64 x.st, .int .i64 x.ph, .int .i64 x.sp, .int .i64 x.tr, .bool x.out, .int .i64 x.at_, .int .i64 x.sk] 40)).alloc (.cells #[.int .i64 0, .string ⟨#[]⟩, .int .i64 0, .int .i64 0, .int .i64 0, .int .i64 0, .bool false, .int .i64 0, .int .i64 0] 40)).alloc (.cells #[.int .i64 0, .string ⟨#[]⟩, .int .i64 0, .int .i64 0, .int .i64 0, .int .i64 0, .bool false, .int .i64 0, .int .i64 0] 40)) w1 g l (endS l s) → w1.cell? ⟨u.heap.size, 0, none⟩ = some (.pointer (some ⟨g, 0, none⟩)) := fun w1 hR => hR.cell (j := 0) HX0.out (by omega)
    have HC0 := Lib.hid c0
    clear hE c0
    go_enter Try.func45, Try.ntmps45
    go_wp2_with fail
    generalize (((u.alloc (.cells #[.pointer (some ⟨g, 0, none⟩)] 80)).alloc (.cells #[.int .i64 x.id, .string x.dn, .int .i64 x.st, .int .i64 x.ph, .int .i64 x.sp, .int .i64 x.tr, .bool x.out, .int .i64 x.at_, .int .i64 x.sk] 40)).alloc (.cells #[.int .i64 0, .string ⟨#[]⟩, .int .i64 0, .int .i64 0, .int .i64 0, .int .i64 0, .bool false, .int .i64 0, .int .i64 0] 40)).alloc (.cells #[.int .i64 0, .string ⟨#[]⟩, .int .i64 0, .int .i64 0, .int .i64 0, .int .i64 0, .bool false, .int .i64 0, .int .i64 0] 40) = W0 at *
    refine (end_s HR0.out).mono ?_
    rintro e w1 ⟨rfl, hR⟩
    have HR := Lib.hid hR
    rw [HE.out]
    have HB3 := Lib.hid (hR.box HX3.out (by omega))
    have HB2 := Lib.hid (hR.box HX2.out (by omega))
    have c0 := HC0.out w1 hR
    clear hR
    go_wp2_with fail
    refine (err_s HR.out).mono ?_
    rintro e w2 ⟨rfl, m, rfl⟩
    have HB4 := Lib.hid (HB3.out.drewN m)
    have HB5 := Lib.hid (HB2.out.drewN m)
    have HR2 := Lib.hid (HR.out.drewN m)
    generalize w1.drewN m = w2 at *
    go_wp2_with (first
      | (refine wpList_load_row rfl 40 (.tmp 9) rfl (u.heap.size + 3) 40 #[.int .i64 0, .string ⟨#[]⟩, .int .i64 0, .int .i64 0, .int .i64 0, .int .i64 0, .bool false, .int .i64 0, .int .i64 0] _ rfl HB4.out Try.underlying40 rfl (by show (Try.prog.info? 40).map (·.size) = some 9; kernel_rfl) ?_)
      | (refine wpList_store_row rfl 40 (.tmp 6) (.tmp 22) rfl (u.heap.size + 2) 40 _ #[.int .i64 0, .string ⟨#[]⟩, .int .i64 0, .int .i64 0, .int .i64 0, .int .i64 0, .bool false, .int .i64 0, .int .i64 0] rfl rfl HB5.out (by show (Try.prog.info? 40).map (·.size) = some 9; kernel_rfl) rfl (by simp [Value.oneCell']) ?_))
    refine bodyPost_ret (res_ctt rfl _ _ (u.heap.size + 2) #[.int .i64 0, .string ⟨#[]⟩, .int .i64 0, .int .i64 0, .int .i64 0, .int .i64 0, .bool false, .int .i64 0, .int .i64 0] Try.underlying40 (by show (Try.prog.info? 40).map (·.size) = some 9; kernel_rfl) rfl (box_set HB5.out _)) rfl ⟨rfl, ?_⟩
    exact (HU.out.trans HR2.out).row (by omega) _

set_option maxHeartbeats 4000000 in
set_option maxRecDepth 100000 in
theorem taken_event (x : Ev) (A : Option Addr) (n c : Nat) (may : Bool) (h : RdAt W u g l s) : Calls Try.prog 52 #[.agg #[.pointer (some ⟨g, 0, none⟩)], .agg #[.int .i64 x.k, .int .i64 x.now, .int .i64 x.sg, .string x.nm, .int .i64 x.r.sg, .int .i64 x.r.sp, .bool x.r.un, .int .i64 x.r.tr, .bool x.r.good, .string x.dn, .int .i64 x.dl, .slice A n c], .bool may] u fun e w' => e = .returned (takenV (endS l s) may (.agg #[.int .i64 0, .int .i64 0, .int .i64 0, .string ⟨#[]⟩, .int .i64 0, .int .i64 0, .bool false, .int .i64 0, .bool false, .string ⟨#[]⟩, .int .i64 0, .slice none 0 0]) (.agg #[.int .i64 x.k, .int .i64 x.now, .int .i64 x.sg, .string x.nm, .int .i64 x.r.sg, .int .i64 x.r.sp, .bool x.r.un, .int .i64 x.r.tr, .bool x.r.good, .string x.dn, .int .i64 x.dl, .slice A n c])) ∧ RdAt W w' g l (endS l s) := by
  have HR0 := Lib.hid (RdAt.refl ((((h.alloc (.cells #[.pointer (some ⟨g, 0, none⟩)] 80)).alloc (.cells #[.int .i64 x.k, .int .i64 x.now, .int .i64 x.sg, .string x.nm, .int .i64 x.r.sg, .int .i64 x.r.sp, .bool x.r.un, .int .i64 x.r.tr, .bool x.r.good, .string x.dn, .int .i64 x.dl, .slice A n c] 51)).alloc (.cells #[.int .i64 0, .int .i64 0, .int .i64 0, .string ⟨#[]⟩, .int .i64 0, .int .i64 0, .bool false, .int .i64 0, .bool false, .string ⟨#[]⟩, .int .i64 0, .slice none 0 0] 51)).alloc (.cells #[.int .i64 0, .int .i64 0, .int .i64 0, .string ⟨#[]⟩, .int .i64 0, .int .i64 0, .bool false, .int .i64 0, .bool false, .string ⟨#[]⟩, .int .i64 0, .slice none 0 0] 51)).rd (by have := h.lt; have := h.size; rw [al4]; omega))
  have HU := Lib.hid ((((h.alloc (.cells #[.pointer (some ⟨g, 0, none⟩)] 80)).alloc (.cells #[.int .i64 x.k, .int .i64 x.now, .int .i64 x.sg, .string x.nm, .int .i64 x.r.sg, .int .i64 x.r.sp, .bool x.r.un, .int .i64 x.r.tr, .bool x.r.good, .string x.dn, .int .i64 x.dl, .slice A n c] 51)).alloc (.cells #[.int .i64 0, .int .i64 0, .int .i64 0, .string ⟨#[]⟩, .int .i64 0, .int .i64 0, .bool false, .int .i64 0, .bool false, .string ⟨#[]⟩, .int .i64 0, .slice none 0 0] 51)).alloc (.cells #[.int .i64 0, .int .i64 0, .int .i64 0, .string ⟨#[]⟩, .int .i64 0, .int .i64 0, .bool false, .int .i64 0, .bool false, .string ⟨#[]⟩, .int .i64 0, .slice none 0 0] 51))
  obtain ⟨hx0, hx1, hx2, hx3⟩ := box4 u 80 51 51 51 #[.pointer (some ⟨g, 0, none⟩)] #[.int .i64 x.k, .int .i64 x.now, .int .i64 x.sg, .string x.nm, .int .i64 x.r.sg, .int .i64 x.r.sp, .bool x.r.un, .int .i64 x.r.tr, .bool x.r.good, .string x.dn, .int .i64 x.dl, .slice A n c] #[.int .i64 0, .int .i64 0, .int .i64 0, .string ⟨#[]⟩, .int .i64 0, .int .i64 0, .bool false, .int .i64 0, .bool false, .string ⟨#[]⟩, .int .i64 0, .slice none 0 0] #[.int .i64 0, .int .i64 0, .int .i64 0, .string ⟨#[]⟩, .int .i64 0, .int .i64 0, .bool false, .int .i64 0, .bool false, .string ⟨#[]⟩, .int .i64 0, .slice none 0 0]
  have HX0 := Lib.hid hx0
  have HX1 := Lib.hid hx1
  have HX2 := Lib.hid hx2
  have HX3 := Lib.hid hx3
  have hW := h.size
  have hl := h.lt
  have hs0 := al4 u (.cells #[.pointer (some ⟨g, 0, none⟩)] 80) (.cells #[.int .i64 x.k, .int .i64 x.now, .int .i64 x.sg, .string x.nm, .int .i64 x.r.sg, .int .i64 x.r.sp, .bool x.r.un, .int .i64 x.r.tr, .bool x.r.good, .string x.dn, .int .i64 x.dl, .slice A n c] 51) (.cells #[.int .i64 0, .int .i64 0, .int .i64 0, .string ⟨#[]⟩, .int .i64 0, .int .i64 0, .bool false, .int .i64 0, .bool false, .string ⟨#[]⟩, .int .i64 0, .slice none 0 0] 51) (.cells #[.int .i64 0, .int .i64 0, .int .i64 0, .string ⟨#[]⟩, .int .i64 0, .int .i64 0, .bool false, .int .i64 0, .bool false, .string ⟨#[]⟩, .int .i64 0, .slice none 0 0] 51)
  clear h hx0 hx1 hx2 hx3
  by_cases hE : (endS l s).e = 0
  · cases may with
    | true =>
      rw [takenV_yes hE]
      have HE := Lib.hid (decide_eq_true hE)
      clear hE
      go_enter Try.func52, Try.ntmps52
      go_wp2_with fail
      generalize (((u.alloc (.cells #[.pointer (some ⟨g, 0, none⟩)] 80)).alloc (.cells #[.int .i64 x.k, .int .i64 x.now, .int .i64 x.sg, .string x.nm, .int .i64 x.r.sg, .int .i64 x.r.sp, .bool x.r.un, .int .i64 x.r.tr, .bool x.r.good, .string x.dn, .int .i64 x.dl, .slice A n c] 51)).alloc (.cells #[.int .i64 0, .int .i64 0, .int .i64 0, .string ⟨#[]⟩, .int .i64 0, .int .i64 0, .bool false, .int .i64 0, .bool false, .string ⟨#[]⟩, .int .i64 0, .slice none 0 0] 51)).alloc (.cells #[.int .i64 0, .int .i64 0, .int .i64 0, .string ⟨#[]⟩, .int .i64 0, .int .i64 0, .bool false, .int .i64 0, .bool false, .string ⟨#[]⟩, .int .i64 0, .slice none 0 0] 51) = W0 at *
      refine (end_s HR0.out).mono ?_
      rintro e w1 ⟨rfl, hR⟩
      have HR := Lib.hid hR
      rw [HE.out]
      have HB1 := Lib.hid (hR.box HX1.out (by omega))
      have HB2 := Lib.hid (hR.box HX2.out (by omega))
      clear hR
      go_wp2_with (first
        | (refine wpList_load_row rfl 51 (.tmp 4) rfl (u.heap.size + 1) 51 #[.int .i64 x.k, .int .i64 x.now, .int .i64 x.sg, .string x.nm, .int .i64 x.r.sg, .int .i64 x.r.sp, .bool x.r.un, .int .i64 x.r.tr, .bool x.r.good, .string x.dn, .int .i64 x.dl, .slice A n c] _ rfl HB1.out Try.underlying51 rfl (by show (Try.prog.info? 51).map (·.size) = some 12; kernel_rfl) ?_)
        | (refine wpList_store_row rfl 51 (.tmp 6) (.tmp 28) rfl (u.heap.size + 2) 51 _ #[.int .i64 x.k, .int .i64 x.now, .int .i64 x.sg, .string x.nm, .int .i64 x.r.sg, .int .i64 x.r.sp, .bool x.r.un, .int .i64 x.r.tr, .bool x.r.good, .string x.dn, .int .i64 x.dl, .slice A n c] rfl rfl HB2.out (by show (Try.prog.info? 51).map (·.size) = some 12; kernel_rfl) rfl (by simp [Value.oneCell']) ?_))
      refine bodyPost_ret (res_ctt rfl _ _ (u.heap.size + 2) #[.int .i64 x.k, .int .i64 x.now, .int .i64 x.sg, .string x.nm, .int .i64 x.r.sg, .int .i64 x.r.sp, .bool x.r.un, .int .i64 x.r.tr, .bool x.r.good, .string x.dn, .int .i64 x.dl, .slice A n c] Try.underlying51 (by show (Try.prog.info? 51).map (·.size) = some 12; kernel_rfl) rfl (box_set HB2.out _)) rfl ⟨rfl, ?_⟩
      exact (HU.out.trans HR.out).row (by omega) _
    | false =>
      rw [takenV_no hE]
      have HE := Lib.hid (decide_eq_true hE)
      clear hE
      go_enter Try.func52, Try.ntmps52
      go_wp2_with fail
      generalize (((u.alloc (.cells #[.pointer (some ⟨g, 0, none⟩)] 80)).alloc (.cells #[.int .i64 x.k, .int .i64 x.now, .int .i64 x.sg, .string x.nm, .int .i64 x.r.sg, .int .i64 x.r.sp, .bool x.r.un, .int .i64 x.r.tr, .bool x.r.good, .string x.dn, .int .i64 x.dl, .slice A n c] 51)).alloc (.cells #[.int .i64 0, .int .i64 0, .int .i64 0, .string ⟨#[]⟩, .int .i64 0, .int .i64 0, .bool false, .int .i64 0, .bool false, .string ⟨#[]⟩, .int .i64 0, .slice none 0 0] 51)).alloc (.cells #[.int .i64 0, .int .i64 0, .int .i64 0, .string ⟨#[]⟩, .int .i64 0, .int .i64 0, .bool false, .int .i64 0, .bool false, .string ⟨#[]⟩, .int .i64 0, .slice none 0 0] 51) = W0 at *
      refine (end_s HR0.out).mono ?_
      rintro e w1 ⟨rfl, hR⟩
      have HR := Lib.hid hR
      rw [HE.out]
      have HB3 := Lib.hid (hR.box HX3.out (by omega))
      have HB2 := Lib.hid (hR.box HX2.out (by omega))
      clear hR
      go_wp2_with (first
        | (refine wpList_load_row rfl 51 (.tmp 9) rfl (u.heap.size + 3) 51 #[.int .i64 0, .int .i64 0, .int .i64 0, .string ⟨#[]⟩, .int .i64 0, .int .i64 0, .bool false, .int .i64 0, .bool false, .string ⟨#[]⟩, .int .i64 0, .slice none 0 0] _ rfl HB3.out Try.underlying51 rfl (by show (Try.prog.info? 51).map (·.size) = some 12; kernel_rfl) ?_)
        | (refine wpList_store_row rfl 51 (.tmp 6) (.tmp 27) rfl (u.heap.size + 2) 51 _ #[.int .i64 0, .int .i64 0, .int .i64 0, .string ⟨#[]⟩, .int .i64 0, .int .i64 0, .bool false, .int .i64 0, .bool false, .string ⟨#[]⟩, .int .i64 0, .slice none 0 0] rfl rfl HB2.out (by show (Try.prog.info? 51).map (·.size) = some 12; kernel_rfl) rfl (by simp [Value.oneCell']) ?_))
      refine bodyPost_ret (res_ctt rfl _ _ (u.heap.size + 2) #[.int .i64 0, .int .i64 0, .int .i64 0, .string ⟨#[]⟩, .int .i64 0, .int .i64 0, .bool false, .int .i64 0, .bool false, .string ⟨#[]⟩, .int .i64 0, .slice none 0 0] Try.underlying51 (by show (Try.prog.info? 51).map (·.size) = some 12; kernel_rfl) rfl (box_set HB2.out _)) rfl ⟨rfl, ?_⟩
      exact (HU.out.trans HR.out).row (by omega) _
  · rw [takenV_err hE]
    have HE := Lib.hid (decide_eq_false hE)
    have c0 : ∀ w1, RdAt ((((u.alloc (.cells #[.pointer (some ⟨g, 0, none⟩)] 80)).alloc (.cells #[.int .i64 x.k, .int .i64 x.now, .int .i64 x.sg, .string x.nm, .int .i64 x.r.sg, .int .i64 x.r.sp, .bool x.r.un, .int .i64 x.r.tr, .bool x.r.good, .string x.dn, .int .i64 x.dl, .slice A n c] 51)).alloc (.cells #[.int .i64 0, .int .i64 0, .int .i64 0, .string ⟨#[]⟩, .int .i64 0, .int .i64 0, .bool false, .int .i64 0, .bool false, .string ⟨#[]⟩, .int .i64 0, .slice none 0 0] 51)).alloc (.cells #[.int .i64 0, .int .i64 0, .int .i64 0, .string ⟨#[]⟩, .int .i64 0, .int .i64 0, .bool false, .int .i64 0, .bool false, .string ⟨#[]⟩, .int .i64 0, .slice none 0 0] 51)) w1 g l (endS l s) → w1.cell? ⟨u.heap.size, 0, none⟩ = some (.pointer (some ⟨g, 0, none⟩)) := fun w1 hR => hR.cell (j := 0) HX0.out (by omega)
    have HC0 := Lib.hid c0
    clear hE c0
    go_enter Try.func52, Try.ntmps52
    go_wp2_with fail
    generalize (((u.alloc (.cells #[.pointer (some ⟨g, 0, none⟩)] 80)).alloc (.cells #[.int .i64 x.k, .int .i64 x.now, .int .i64 x.sg, .string x.nm, .int .i64 x.r.sg, .int .i64 x.r.sp, .bool x.r.un, .int .i64 x.r.tr, .bool x.r.good, .string x.dn, .int .i64 x.dl, .slice A n c] 51)).alloc (.cells #[.int .i64 0, .int .i64 0, .int .i64 0, .string ⟨#[]⟩, .int .i64 0, .int .i64 0, .bool false, .int .i64 0, .bool false, .string ⟨#[]⟩, .int .i64 0, .slice none 0 0] 51)).alloc (.cells #[.int .i64 0, .int .i64 0, .int .i64 0, .string ⟨#[]⟩, .int .i64 0, .int .i64 0, .bool false, .int .i64 0, .bool false, .string ⟨#[]⟩, .int .i64 0, .slice none 0 0] 51) = W0 at *
    refine (end_s HR0.out).mono ?_
    rintro e w1 ⟨rfl, hR⟩
    have HR := Lib.hid hR
    rw [HE.out]
    have HB3 := Lib.hid (hR.box HX3.out (by omega))
    have HB2 := Lib.hid (hR.box HX2.out (by omega))
    have c0 := HC0.out w1 hR
    clear hR
    go_wp2_with fail
    refine (err_s HR.out).mono ?_
    rintro e w2 ⟨rfl, m, rfl⟩
    have HB4 := Lib.hid (HB3.out.drewN m)
    have HB5 := Lib.hid (HB2.out.drewN m)
    have HR2 := Lib.hid (HR.out.drewN m)
    generalize w1.drewN m = w2 at *
    go_wp2_with (first
      | (refine wpList_load_row rfl 51 (.tmp 9) rfl (u.heap.size + 3) 51 #[.int .i64 0, .int .i64 0, .int .i64 0, .string ⟨#[]⟩, .int .i64 0, .int .i64 0, .bool false, .int .i64 0, .bool false, .string ⟨#[]⟩, .int .i64 0, .slice none 0 0] _ rfl HB4.out Try.underlying51 rfl (by show (Try.prog.info? 51).map (·.size) = some 12; kernel_rfl) ?_)
      | (refine wpList_store_row rfl 51 (.tmp 6) (.tmp 22) rfl (u.heap.size + 2) 51 _ #[.int .i64 0, .int .i64 0, .int .i64 0, .string ⟨#[]⟩, .int .i64 0, .int .i64 0, .bool false, .int .i64 0, .bool false, .string ⟨#[]⟩, .int .i64 0, .slice none 0 0] rfl rfl HB5.out (by show (Try.prog.info? 51).map (·.size) = some 12; kernel_rfl) rfl (by simp [Value.oneCell']) ?_))
    refine bodyPost_ret (res_ctt rfl _ _ (u.heap.size + 2) #[.int .i64 0, .int .i64 0, .int .i64 0, .string ⟨#[]⟩, .int .i64 0, .int .i64 0, .bool false, .int .i64 0, .bool false, .string ⟨#[]⟩, .int .i64 0, .slice none 0 0] Try.underlying51 (by show (Try.prog.info? 51).map (·.size) = some 12; kernel_rfl) rfl (box_set HB5.out _)) rfl ⟨rfl, ?_⟩
    exact (HU.out.trans HR2.out).row (by omega) _
end
end Go.Proofs.Ytihkadbcjeohjaa.Co
