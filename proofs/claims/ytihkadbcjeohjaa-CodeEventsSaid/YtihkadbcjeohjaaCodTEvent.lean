/-
  The program's TakeEvent.
  Conditions: the bytes lie in memory; they are at most 2^40.
-/
import Derived.Test.YtihkadbcjeohjaaCodTs
import Derived.Test.YtihkadbcjeohjaaCodGood
import Derived.Laws.CopyRow
namespace Go.Proofs.Ytihkadbcjeohjaa.Co
open Go.RowKit
open Go.Proofs.Ytihkadbcjeohjaa.El
open Go.Proofs.Ytihkadbcjeohjaa.Df
open Go.Proofs.Ytihkadbcjeohjaa.Bo (P Made ret_int ret_bool)
open Go.Proofs.Ytihkadbcjeohjaa.Sa (Sg Rp)

/-- a store of some of a block's cells -/
theorem wpList_store_part {P : Program} {ops : Array Oper} {rest : List Oper} {op : Oper} {a : Act} {w : World} {Q : Exit → Act → World → Prop} (hgd : op.guard = none) (ty : TypeId) (x y : Operand) (ho : op.op = .store ty x y)
    (g o : Nat) (t : TypeId) (old cs new : Array Value) (hx : a.eval x = .pointer (some ⟨g, o, none⟩)) (hy : a.eval y = .agg cs) (hg : Box w g t old) (hi : (P.info? ty).map (·.size) = some cs.size)
    (hs : o + cs.size ≤ old.size) (h1 : cs.all (·.oneCell') = true) (hn : new = (old.toList.take o ++ cs.toList ++ old.toList.drop (o + cs.size)).toArray) (h : wpList P ops Q rest (a.put op.dst undef) (w.setRow g new)) : wpList P ops Q (op :: rest) a w :=
  wpList_plain hgd fun _ hK => by
    have hr := run_storeCells_at (P := P) g o t cs.toList 0 old w hg (by simpa using hs) (fun v hv => (Array.all_eq_true_iff_forall_mem.1 h1) v (by simpa using hv))
    have hv : (storeVar ty ⟨g, o, none⟩ (.agg cs)).run P w = .ok () (w.setRow g new) := by
      cases hq : P.info? ty with
      | none => simp [hq] at hi
      | some i =>
        have hz : cs.size = i.size := by simp [hq] at hi; omega
        simp only [Nat.add_zero, Array.length_toList] at hr
        rw [← hn] at hr
        simp [storeVar, sizeOf, typeInfo, hq, Value.cells, hz, hr]
    unfold Oper.wp execOp
    simp only [ho, hx, hy, Instr.storeAt, Instr.sureAddr, Sem.run_bind, Sem.run_pure, Result.andThen_ok, hv]
    exact hK _ _ h
/-- an event that was taken, with its place and its error -/
def EvTo (w : World) (r : Ev × Nat × Nat) (e : Ending) (w' : World) : Prop :=
  ∃ A n c, e = .returned (.tuple #[.agg #[.int .i64 r.1.k, .int .i64 r.1.now, .int .i64 r.1.sg, .string r.1.nm, .int .i64 r.1.r.sg, .int .i64 r.1.r.sp, .bool r.1.r.un, .int .i64 r.1.r.tr, .bool r.1.r.good, .string r.1.dn, .int .i64 r.1.dl, .slice A n c], .int .i64 (r.2.1 : Int), .int .i64 (r.2.2 : Int)]) ∧ n = r.1.ss.length ∧ n ≤ c ∧ Df.Steps w' w'.heap.size A r.1.ss ∧ Below w.heap.size w w'
theorem evTo_of {w w' : World} {l : List UInt8} {T : Ps} {v : Ev} {A : Option Addr} {n c : Nat} (hk : ¬ 10 < evK l) (hT : evE l = T) (hv : evV l = v) (hn : n = v.ss.length) (hc : n ≤ c) (hS : Df.Steps w' w'.heap.size A v.ss) (hb : Below w.heap.size w w') {e : Ending}
    (he : e = .returned (takenV T (goodE v) (.agg #[.int .i64 0, .int .i64 0, .int .i64 0, .string ⟨#[]⟩, .int .i64 0, .int .i64 0, .bool false, .int .i64 0, .bool false, .string ⟨#[]⟩, .int .i64 0, .slice none 0 0]) (.agg #[.int .i64 v.k, .int .i64 v.now, .int .i64 v.sg, .string v.nm, .int .i64 v.r.sg, .int .i64 v.r.sp, .bool v.r.un, .int .i64 v.r.tr, .bool v.r.good, .string v.dn, .int .i64 v.dl, .slice A n c]))) : EvTo w (evA l) e w' := by
  subst hT hv
  unfold evA
  rw [if_neg hk]
  by_cases hE : (evE l).e = 0
  · rw [if_neg (show ¬ (evE l).e ≠ 0 from fun h => h hE)]
    cases hg : goodE (evV l) with
    | false =>
      rw [if_pos rfl]
      rw [hg, takenV_no hE] at he
      exact ⟨none, 0, 0, he, rfl, Nat.le_refl _, Els.nil _ _ _ _ _, hb⟩
    | true =>
      rw [if_neg (by decide)]
      rw [hg, takenV_yes hE] at he
      exact ⟨A, n, c, he, hn, hc, hS, hb⟩
  · rw [if_pos hE]
    rw [takenV_err hE] at he
    exact ⟨none, 0, 0, he, rfl, Nat.le_refl _, Els.nil _ _ _ _ _, hb⟩
/-- where the end stands: what was taken so far, and the row of its steps -/
structure Te (w u : World) (q g x : Nat) (l : List UInt8) (s : Ps) (v : Ev) (A : Option Addr) (n c : Nat) : Prop where
  ts : Ts w u q g x l s 51 #[.int .i64 v.k, .int .i64 v.now, .int .i64 v.sg, .string v.nm, .int .i64 v.r.sg, .int .i64 v.r.sp, .bool v.r.un, .int .i64 v.r.tr, .bool v.r.good, .string v.dn, .int .i64 v.dl, .slice A n c]
  own : u.ownsRow w.heap.size 67 12 (.slice A n c) n (cellsS v.ss)
section
variable {w u u2 : World} {q g x : Nat} {l : List UInt8} {s t : Ps} {v : Ev} {A : Option Addr} {n c : Nat}
theorem Te.call (h : Te w u q g x l s v A n c) (k : RdAt u u2 g l t) : Te w u2 q g x l t v A n c := ⟨h.ts.call k, h.own.kept k.gr (.inr (rd_apart h.ts.rd h.own))⟩
theorem Te.below (h : Te w u q g x l s v A n c) (k : Below u.heap.size u u2) : Te w u2 q g x l s v A n c := h.call (h.ts.rd.below k)
theorem Te.drew (h : Te w u q g x l s v A n c) : Te w u.drew q g x l s v A n c := h.call h.ts.rd.drew
theorem Te.len (h : Te w u q g x l s v A n c) : n = v.ss.length := by
  have := h.own.1
  rw [cellsS_len] at this
  omega
theorem Te.cap (h : Te w u q g x l s v A n c) : n ≤ c := by
  rcases h.own.2 with ⟨h1, h0⟩ | ⟨g, cap, cur, h1, _, _, hc, _⟩
  · injection h1 with _ h2 h3; omega
  · injection h1 with _ h2 h3; omega
theorem Te.in_ (h : Te w u q g x l s v A n c) (hm : Mod v.dn v.ss) (hn : v.nm.size ≤ 1000000) : EvIn u v A n c := ⟨h.len, h.cap, hm, hn, steps_own h.own⟩
end
set_option maxHeartbeats 1000000 in
theorem noU_ev (v : Ev) (A : Option Addr) (n c : Nat) : noU #[.int .i64 v.k, .int .i64 v.now, .int .i64 v.sg, .string v.nm, .int .i64 v.r.sg, .int .i64 v.r.sp, .bool v.r.un, .int .i64 v.r.tr, .bool v.r.good, .string v.dn, .int .i64 v.dl, .slice A n c] = true := by simp [noU]
/-- an answer of taken: a struct of twelve cells, a place, an error -/
theorem taken_form (T : Ps) (may : Bool) (v : Ev) (A : Option Addr) (n c : Nat) : ∃ (cs : Array Value) (a1 a2 : Int), takenV T may (.agg #[.int .i64 0, .int .i64 0, .int .i64 0, .string ⟨#[]⟩, .int .i64 0, .int .i64 0, .bool false, .int .i64 0, .bool false, .string ⟨#[]⟩, .int .i64 0, .slice none 0 0]) (.agg #[.int .i64 v.k, .int .i64 v.now, .int .i64 v.sg, .string v.nm, .int .i64 v.r.sg, .int .i64 v.r.sp, .bool v.r.un, .int .i64 v.r.tr, .bool v.r.good, .string v.dn, .int .i64 v.dl, .slice A n c]) = .tuple #[.agg cs, .int .i64 a1, .int .i64 a2] ∧ cs.size = 12 ∧ cs.all (·.oneCell') = true := by
  by_cases hE : T.e = 0
  · cases may with
    | false => rw [takenV_no hE]; exact ⟨_, _, _, rfl, rfl, by simp [Value.oneCell']⟩
    | true => rw [takenV_yes hE]; exact ⟨_, _, _, rfl, rfl, by simp [Value.oneCell']⟩
  · rw [takenV_err hE]; exact ⟨_, _, _, rfl, rfl, by simp [Value.oneCell']⟩
set_option maxHeartbeats 16000000 in
set_option maxRecDepth 100000 in
theorem takeEvent_any (A : Option Addr) (l : List UInt8) (c : Nat) (w : World) (hb : Byt w w.heap.size A l) (hl : l.length ≤ 1099511627776) :
    Calls Try.prog 19 #[.slice A l.length c] w (EvTo w (evA l)) := by
  have HN := Lib.hid (new_any A l c (w.alloc (.cells #[.int .i64 0, .int .i64 0, .int .i64 0, .string ⟨#[]⟩, .int .i64 0, .int .i64 0, .bool false, .int .i64 0, .bool false, .string ⟨#[]⟩, .int .i64 0, .slice none 0 0] 51)) ((hb.below ((Below.refl _ w).alloc (Nat.le_refl _) _)).more (by simp)) hl)
  have HX := Lib.hid (Box.new w 51 #[.int .i64 0, .int .i64 0, .int .i64 0, .string ⟨#[]⟩, .int .i64 0, .int .i64 0, .bool false, .int .i64 0, .bool false, .string ⟨#[]⟩, .int .i64 0, .slice none 0 0])
  have HB := Lib.hid ((Below.refl w.heap.size w).alloc (Nat.le_refl _) (.cells #[.int .i64 0, .int .i64 0, .int .i64 0, .string ⟨#[]⟩, .int .i64 0, .int .i64 0, .bool false, .int .i64 0, .bool false, .string ⟨#[]⟩, .int .i64 0, .slice none 0 0] 51))
  have hz0 : (w.alloc (.cells #[.int .i64 0, .int .i64 0, .int .i64 0, .string ⟨#[]⟩, .int .i64 0, .int .i64 0, .bool false, .int .i64 0, .bool false, .string ⟨#[]⟩, .int .i64 0, .slice none 0 0] 51)).heap.size = w.heap.size + 1 := by simp
  obtain ⟨s1, hs1⟩ : ∃ t, t = numS l zeroP := ⟨_, rfl⟩
  obtain ⟨q1, hq1⟩ : ∃ q, q = numQ l zeroP := ⟨_, rfl⟩
  have HC1 : Hid (∀ g u, RdAt u u g l zeroP → Calls Try.prog 42 #[.pointer (some ⟨g, 0, none⟩)] u fun e w2 => e = .returned (.int .i64 (q1 : Nat)) ∧ RdAt u w2 g l s1) := Lib.hid fun g u h => by rw [hs1, hq1]; exact num_s h
  obtain ⟨s2, hs2⟩ : ∃ t, t = numS l s1 := ⟨_, rfl⟩
  obtain ⟨q2, hq2⟩ : ∃ q, q = numQ l s1 := ⟨_, rfl⟩
  have HC2 : Hid (∀ g u, RdAt u u g l s1 → Calls Try.prog 42 #[.pointer (some ⟨g, 0, none⟩)] u fun e w2 => e = .returned (.int .i64 (q2 : Nat)) ∧ RdAt u w2 g l s2) := Lib.hid fun g u h => by rw [hs2, hq2]; exact num_s h
  obtain ⟨s3, hs3⟩ : ∃ t, t = numS l s2 := ⟨_, rfl⟩
  obtain ⟨q3, hq3⟩ : ∃ q, q = numQ l s2 := ⟨_, rfl⟩
  have HC3 : Hid (∀ g u, RdAt u u g l s2 → Calls Try.prog 42 #[.pointer (some ⟨g, 0, none⟩)] u fun e w2 => e = .returned (.int .i64 (q3 : Nat)) ∧ RdAt u w2 g l s3) := Lib.hid fun g u h => by rw [hs3, hq3]; exact num_s h
  have HK1 : Hid (evK l = q1) := Lib.hid hq1.symm
  have HS3 : Hid (ev3 l = s3) := Lib.hid (by rw [hs3, hs2, hs1]; rfl)
  have HN2 : Hid (numQ l (numS l zeroP) = q2) := Lib.hid (by rw [hq2, hs1])
  have HN3 : Hid (numQ l (numS l (numS l zeroP)) = q3) := Lib.hid (by rw [hq3, hs2, hs1])
  have HIk := Lib.hid (isKind_any (q1 : Nat))
  have hq1b : q1 ≤ 4611686018427387904 := by
    rw [hq1]
    unfold numQ numA
    split
    · next h => have := numN_le l zeroP.p; rw [numN_of (ok_of h).2] at this; exact this
    · exact Nat.zero_le _
  clear hb hs3 hq3 hs2 hq2 hs1 hq1
  by_cases hbig : 10 < q1
  · have HKk : Hid (kindG (q1 : Nat) = false) := Lib.hid (by unfold kindG; rw [decide_eq_false (p := ((q1 : Nat) : Int) ≤ 10) (by omega)]; simp)
    have HF0 : Hid (∀ w', Below w.heap.size w w' → EvTo w (evA l) (.returned (.tuple #[.agg #[.int .i64 0, .int .i64 0, .int .i64 0, .string ⟨#[]⟩, .int .i64 0, .int .i64 0, .bool false, .int .i64 0, .bool false, .string ⟨#[]⟩, .int .i64 0, .slice none 0 0], .int .i64 0, .int .i64 11])) w') := Lib.hid fun w' hb => by
      unfold evA
      rw [if_pos (by rw [HK1.out]; exact hbig)]
      exact ⟨none, 0, 0, rfl, rfl, Nat.le_refl _, Els.nil _ _ _ _ _, hb⟩
    clear hbig
    go_enter Try.func19, Try.ntmps19
    go_wp2_with fail
    generalize w.alloc (.cells #[.int .i64 0, .int .i64 0, .int .i64 0, .string ⟨#[]⟩, .int .i64 0, .int .i64 0, .bool false, .int .i64 0, .bool false, .string ⟨#[]⟩, .int .i64 0, .slice none 0 0] 51) = W0 at *
    refine HN.out.mono ?_
    rintro e w1 ⟨g, rfl, hg, hR, hB⟩
    have HT0 : Hid (Ts w (w1.alloc (.cells #[.pointer (some ⟨g, 0, none⟩)] 80)) w1.heap.size g w.heap.size l zeroP 51 #[.int .i64 0, .int .i64 0, .int .i64 0, .string ⟨#[]⟩, .int .i64 0, .int .i64 0, .bool false, .int .i64 0, .bool false, .string ⟨#[]⟩, .int .i64 0, .slice none 0 0]) := Lib.hid (by
      have hgl : g < w1.heap.size := by obtain ⟨A', c', _, hb', _⟩ := hR.box; exact hb'.lt
      have hr : RdAt w1 w1 g l zeroP := RdAt.refl hR hgl
      have hr2 := hr.alloc (.cells #[.pointer (some ⟨g, 0, none⟩)] 80)
      have hbw := HB.out.trans (hB.mono HB.out.size)
      exact ⟨RdAt.refl hr2.rd (by simp; omega), Box.new _ _ _, (HX.out.below hB HX.out.lt).alloc _, hbw.alloc hbw.size _, by omega, Nat.le_refl _, hbw.size, by omega, by omega, by have := hB.size; omega⟩)
    clear hg hR hB HN HX HB
    have c0 := HT0.out.cell
    go_wp2_with fail
    clear c0
    refine (HC1.out g _ HT0.out.rd).mono ?_
    rintro e u1 ⟨rfl, hR⟩
    have HT1 := Lib.hid (HT0.out.call hR)
    clear hR HT0 HC1
    have d := HT1.out.xb.cell 0
    simp only [List.getElem?_toArray, List.getElem?_cons_zero] at d
    have f := HT1.out.xb.frozen 0
    have HT2 : Hid (Ts w (u1.setCell ⟨w.heap.size, 0, none⟩ (.int .i64 (q1 : Nat))) w1.heap.size g w.heap.size l s1 51 #[.int .i64 (q1 : Nat), .int .i64 0, .int .i64 0, .string ⟨#[]⟩, .int .i64 0, .int .i64 0, .bool false, .int .i64 0, .bool false, .string ⟨#[]⟩, .int .i64 0, .slice none 0 0]) := Lib.hid (HT1.out.put (by simp [noU]) 0 (.int .i64 (q1 : Nat)))
    have d0 := HT2.out.xb.cell 0
    simp only [List.getElem?_toArray, List.getElem?_cons_zero] at d0
    go_wp2_with fail
    refine (HIk.out _).mono ?_
    rintro e wk ⟨rfl, rfl⟩
    clear d f d0
    generalize u1.setCell ⟨w.heap.size, 0, none⟩ (.int .i64 (q1 : Nat)) = vk at *
    rw [HKk.out]
    have HTz := Lib.hid (HT2.out.row (by simp [noU]) #[.int .i64 0, .int .i64 0, .int .i64 0, .string ⟨#[]⟩, .int .i64 0, .int .i64 0, .bool false, .int .i64 0, .bool false, .string ⟨#[]⟩, .int .i64 0, .slice none 0 0])
    go_wp2_with (refine wpList_store_row rfl 51 (.tmp 2) (.tmp 17) rfl (w.heap.size) 51 _ #[.int .i64 0, .int .i64 0, .int .i64 0, .string ⟨#[]⟩, .int .i64 0, .int .i64 0, .bool false, .int .i64 0, .bool false, .string ⟨#[]⟩, .int .i64 0, .slice none 0 0] rfl rfl HT2.out.xb (by show (Try.prog.info? 51).map (·.size) = some 12; kernel_rfl) rfl (by simp [Value.oneCell']) ?_)
    refine bodyPost_ret (res_ctt rfl _ _ (w.heap.size) #[.int .i64 0, .int .i64 0, .int .i64 0, .string ⟨#[]⟩, .int .i64 0, .int .i64 0, .bool false, .int .i64 0, .bool false, .string ⟨#[]⟩, .int .i64 0, .slice none 0 0] Try.underlying51 (by show (Try.prog.info? 51).map (·.size) = some 12; kernel_rfl) rfl HTz.out.xb) rfl ?_
    exact HF0.out _ HTz.out.bel
  · have HKk : Hid (kindG (q1 : Nat) = true) := Lib.hid (by unfold kindG; rw [decide_eq_true (p := ((q1 : Nat) : Int) ≤ 10) (by omega), decide_eq_true (by omega)]; rfl)
    go_enter Try.func19, Try.ntmps19
    go_wp2_with fail
    generalize w.alloc (.cells #[.int .i64 0, .int .i64 0, .int .i64 0, .string ⟨#[]⟩, .int .i64 0, .int .i64 0, .bool false, .int .i64 0, .bool false, .string ⟨#[]⟩, .int .i64 0, .slice none 0 0] 51) = W0 at *
    refine HN.out.mono ?_
    rintro e w1 ⟨g, rfl, hg, hR, hB⟩
    have HT0 : Hid (Ts w (w1.alloc (.cells #[.pointer (some ⟨g, 0, none⟩)] 80)) w1.heap.size g w.heap.size l zeroP 51 #[.int .i64 0, .int .i64 0, .int .i64 0, .string ⟨#[]⟩, .int .i64 0, .int .i64 0, .bool false, .int .i64 0, .bool false, .string ⟨#[]⟩, .int .i64 0, .slice none 0 0]) := Lib.hid (by
      have hgl : g < w1.heap.size := by obtain ⟨A', c', _, hb', _⟩ := hR.box; exact hb'.lt
      have hr : RdAt w1 w1 g l zeroP := RdAt.refl hR hgl
      have hr2 := hr.alloc (.cells #[.pointer (some ⟨g, 0, none⟩)] 80)
      have hbw := HB.out.trans (hB.mono HB.out.size)
      exact ⟨RdAt.refl hr2.rd (by simp; omega), Box.new _ _ _, (HX.out.below hB HX.out.lt).alloc _, hbw.alloc hbw.size _, by omega, Nat.le_refl _, hbw.size, by omega, by omega, by have := hB.size; omega⟩)
    clear hg hR hB HN HX HB
    have c0 := HT0.out.cell
    go_wp2_with fail
    clear c0
    refine (HC1.out g _ HT0.out.rd).mono ?_
    rintro e u1 ⟨rfl, hR⟩
    have HT1 := Lib.hid (HT0.out.call hR)
    clear hR HT0 HC1
    have d := HT1.out.xb.cell 0
    simp only [List.getElem?_toArray, List.getElem?_cons_zero] at d
    have f := HT1.out.xb.frozen 0
    have HT2 : Hid (Ts w (u1.setCell ⟨w.heap.size, 0, none⟩ (.int .i64 (q1 : Nat))) w1.heap.size g w.heap.size l s1 51 #[.int .i64 (q1 : Nat), .int .i64 0, .int .i64 0, .string ⟨#[]⟩, .int .i64 0, .int .i64 0, .bool false, .int .i64 0, .bool false, .string ⟨#[]⟩, .int .i64 0, .slice none 0 0]) := Lib.hid (HT1.out.put (by simp [noU]) 0 (.int .i64 (q1 : Nat)))
    have d0 := HT2.out.xb.cell 0
    simp only [List.getElem?_toArray, List.getElem?_cons_zero] at d0
    go_wp2_with fail
    refine (HIk.out _).mono ?_
    rintro e wk ⟨rfl, rfl⟩
    clear d f d0
    generalize u1.setCell ⟨w.heap.size, 0, none⟩ (.int .i64 (q1 : Nat)) = vk at *
    rw [HKk.out]
    have c0 := HT2.out.cell
    go_wp2_with fail
    clear c0
    refine wp_region_held_drew (S := fun v => v.cell? ⟨w1.heap.size, 0, none⟩ = some (.pointer (some ⟨g, 0, none⟩))) (by kernel_rfl) (HT2.out.drew.cell) (fun hHeld => ?_)
    have HD := Lib.hid HT2.out.drew
    clear HT2
    refine wpAnyH_take (i := 0) (oi := ⟨some 18, _, _, _, _, _⟩) (v := ?_) rfl (by kernel_rfl) (by kernel_rfl) (by kernel_rfl) (fun _ _ _ h => h) (Or.inl ⟨by rfl, ?_⟩) (by assumption) ?_
    rotate_left
    · (intro u hu; (try dsimp only at hu); go_simp; (try with_reducible rfl))
    (try simp only [Act.put, List.setIfInBounds_toArray, List.set_cons_zero, List.set_cons_succ])
    refine wpAnyH_take (i := 1) (oi := ⟨some 19, _, _, _, _, _⟩) (v := ?_) rfl (by kernel_rfl) (by kernel_rfl) (by kernel_rfl) (fun _ _ _ h => h) (Or.inl ⟨by rfl, ?_⟩) (by assumption) ?_
    rotate_left
    · (intro u hu; (try dsimp only at hu); go_simp; (try with_reducible rfl))
    (try simp only [Act.put, List.setIfInBounds_toArray, List.set_cons_zero, List.set_cons_succ])
    refine wpAnyH_take (i := 3) (oi := ⟨some 21, _, _, _, _, _⟩) (v := ?_) rfl (by kernel_rfl) (by kernel_rfl) (by kernel_rfl) (fun _ _ _ h => h) (Or.inl ⟨by rfl, ?_⟩) (by assumption) ?_
    rotate_left
    · (intro u hu; (try dsimp only at hu); go_simp; (try with_reducible rfl))
    (try simp only [Act.put, List.setIfInBounds_toArray, List.set_cons_zero, List.set_cons_succ])
    refine wpAnyH_take (i := 4) (oi := ⟨some 22, _, _, _, _, _⟩) (v := ?_) rfl (by kernel_rfl) (by kernel_rfl) (by kernel_rfl) (fun _ _ _ h => h) (Or.inl ⟨by rfl, ?_⟩) (by assumption) ?_
    rotate_left
    · (intro u hu; (try dsimp only at hu); go_simp; (try with_reducible rfl))
    (try simp only [Act.put, List.setIfInBounds_toArray, List.set_cons_zero, List.set_cons_succ])
    refine wpAnyH_ready (rs := [2]) (by kernel_rfl) (by simp) ?_
    refine AllReadyH.cons (o := ⟨some 20, _, _, _, _, _⟩) rfl (fun K hK => ?_) AllReadyH.nil
    go_simp
    refine (HC2.out g _ HD.out.rd).mono ?_
    rintro e u3 ⟨rfl, hR⟩
    have HT3 := Lib.hid (HD.out.call hR)
    clear hR HD HC2
    go_wp2_with fail
    refine hK.out _ _ ?_ (fun hHeld => ?_)
    · exact HT3.out.cell
    clear hK K
    (try simp only [Act.put, List.setIfInBounds_toArray, List.set_cons_zero, List.set_cons_succ])
    refine wpAnyH_take (i := 6) (oi := ⟨some 24, _, _, _, _, _⟩) (v := ?_) rfl (by kernel_rfl) (by kernel_rfl) (by kernel_rfl) (fun _ _ _ h => h) (Or.inl ⟨by rfl, ?_⟩) (by assumption) ?_
    rotate_left
    · (intro u hu; (try dsimp only at hu); go_simp; (try with_reducible rfl))
    (try simp only [Act.put, List.setIfInBounds_toArray, List.set_cons_zero, List.set_cons_succ])
    refine wpAnyH_ready (rs := [5]) (by kernel_rfl) (by simp) ?_
    refine AllReadyH.cons (o := ⟨some 23, _, _, _, _, _⟩) rfl (fun K hK => ?_) AllReadyH.nil
    go_simp
    refine (HC3.out g _ HT3.out.rd).mono ?_
    rintro e u4 ⟨rfl, hR⟩
    have HT4 := Lib.hid (HT3.out.call hR)
    clear hR HT3 HC3
    go_wp2_with fail
    refine hK.out _ _ ?_ (fun hHeld => ?_)
    · exact HT4.out.cell
    clear hK K
    (try simp only [Act.put, List.setIfInBounds_toArray, List.set_cons_zero, List.set_cons_succ])
    have d := HT4.out.xb.cell 1
    simp only [List.getElem?_toArray, List.getElem?_cons_zero, List.getElem?_cons_succ] at d
    have f := HT4.out.xb.frozen 1
    refine wpAnyH_ready (rs := [7]) (by decide +kernel) (by simp) ?_
    refine AllReadyH.cons (o := ⟨none, _, _, _, _, _⟩) rfl (fun K hK => ?_) AllReadyH.nil
    go_simp
    have HT5 : Hid (Ts w (u4.setCell ⟨w.heap.size, 1, none⟩ (.int .i64 (q2 : Nat))) w1.heap.size g w.heap.size l s3 51 #[.int .i64 (q1 : Nat), .int .i64 (q2 : Nat), .int .i64 0, .string ⟨#[]⟩, .int .i64 0, .int .i64 0, .bool false, .int .i64 0, .bool false, .string ⟨#[]⟩, .int .i64 0, .slice none 0 0]) := Lib.hid (HT4.out.put (by simp [noU]) 1 (.int .i64 (q2 : Nat)))
    refine hK.out _ _ ?_ (fun hHeld => ?_)
    · exact HT5.out.cell
    clear hK K d f HT4
    (try simp only [Act.put])
    generalize u4.setCell ⟨w.heap.size, 1, none⟩ (.int .i64 (q2 : Nat)) = v5 at *
    refine wpAnyH_take (i := 8) (oi := ⟨some 25, _, _, _, _, _⟩) (v := ?_) rfl (by kernel_rfl) (by kernel_rfl) (by kernel_rfl) (fun _ _ _ h => h) (Or.inl ⟨by rfl, ?_⟩) (by assumption) ?_
    rotate_left
    · (intro u hu; (try dsimp only at hu); go_simp; (try with_reducible rfl))
    (try simp only [Act.put, List.setIfInBounds_toArray, List.set_cons_zero, List.set_cons_succ])
    have d := HT5.out.xb.cell 2
    simp only [List.getElem?_toArray, List.getElem?_cons_zero, List.getElem?_cons_succ] at d
    have f := HT5.out.xb.frozen 2
    refine wpAnyH_ready (rs := [9]) (by decide +kernel) (by simp) ?_
    refine AllReadyH.cons (o := ⟨none, _, _, _, _, _⟩) rfl (fun K hK => ?_) AllReadyH.nil
    go_simp
    have HT6 : Hid (Ts w (v5.setCell ⟨w.heap.size, 2, none⟩ (.int .i64 (q3 : Nat))) w1.heap.size g w.heap.size l s3 51 #[.int .i64 (q1 : Nat), .int .i64 (q2 : Nat), .int .i64 (q3 : Nat), .string ⟨#[]⟩, .int .i64 0, .int .i64 0, .bool false, .int .i64 0, .bool false, .string ⟨#[]⟩, .int .i64 0, .slice none 0 0]) := Lib.hid (HT5.out.put (by simp [noU]) 2 (.int .i64 (q3 : Nat)))
    refine hK.out _ _ ?_ (fun hHeld => ?_)
    · exact HT6.out.cell
    clear hK K d f HT5
    (try simp only [Act.put])
    generalize v5.setCell ⟨w.heap.size, 2, none⟩ (.int .i64 (q3 : Nat)) = v6 at *
    refine wpAnyH_done (by kernel_rfl) ?_ _
    by_cases hkq : q1 = 0
    · as_aux_lemma =>
        obtain ⟨dn, hdn⟩ : ∃ d, d = txtQ l s3 := ⟨_, rfl⟩
        obtain ⟨dl, hdl⟩ : ∃ d : Int, d = (numQ l (txtS l s3) : Nat) := ⟨_, rfl⟩
        obtain ⟨ss, hss⟩ : ∃ d, d = defSs l s3 := ⟨_, rfl⟩
        obtain ⟨s4, hs4⟩ : ∃ d, d = defS l s3 := ⟨_, rfl⟩
        obtain ⟨v, hv⟩ : ∃ v : Ev, v = ⟨q1, q2, q3, tx0, rp0, dn, dl, ss⟩ := ⟨_, rfl⟩
        obtain ⟨T, hT⟩ : ∃ T, T = endS l s4 := ⟨_, rfl⟩
        have hev : evV l = v := by
          rw [hv, hdn, hdl, hss]
          unfold evV
          rw [HS3.out, HN2.out, HN3.out, HK1.out, hkq]
          rfl
        have het : evE l = T := by
          rw [hT, hs4]
          unfold evE evS
          rw [HS3.out, HK1.out, hkq]
          rfl
        have HF : Hid (∀ (A : Option Addr) (n c : Nat) (e : Ending) (w' : World), n = v.ss.length → n ≤ c → Df.Steps w' w'.heap.size A v.ss → Below w.heap.size w w' → e = .returned (takenV T (goodE v) (.agg #[.int .i64 0, .int .i64 0, .int .i64 0, .string ⟨#[]⟩, .int .i64 0, .int .i64 0, .bool false, .int .i64 0, .bool false, .string ⟨#[]⟩, .int .i64 0, .slice none 0 0]) (.agg #[.int .i64 v.k, .int .i64 v.now, .int .i64 v.sg, .string v.nm, .int .i64 v.r.sg, .int .i64 v.r.sp, .bool v.r.un, .int .i64 v.r.tr, .bool v.r.good, .string v.dn, .int .i64 v.dl, .slice A n c])) → EvTo w (evA l) e w') := Lib.hid fun A n c e w' h1 h2 h3 h4 h5 => evTo_of (by rw [HK1.out]; omega) het hev h1 h2 h3 h4 h5
        have HMo : Hid (Mod v.dn v.ss ∧ v.nm.size ≤ 1000000) := Lib.hid (by
          have hf := fits_taken l
          rw [hev] at hf
          have hl : v.ss.length ≤ 32 := by
            rw [← hev]
            unfold evV
            dsimp only
            split
            · unfold defSs; rw [stepsQ_len]; exact cntQ_le _
            · exact Nat.zero_le _
          exact ⟨⟨by have := hf.2.1; omega, by omega, fun x hx => by have := hf.2.2 x hx; omega⟩, by have := hf.1; omega⟩)
        have HVv := Lib.hid hv
        have HTe : Hid (endS l s4 = T) := Lib.hid hT.symm
        have HSs : Hid (ss.length = defN l s3 ∧ ss = defSs l s3) := Lib.hid ⟨by rw [hss]; exact stepsQ_len l _ _, hss⟩
        have HDf : Hid (∀ g u, RdAt u u g l s3 → Calls Try.prog 32 #[.agg #[.pointer (some ⟨g, 0, none⟩)]] u fun e w2 => ∃ A n c, e = .returned (.agg #[.string dn, .int .i64 dl, .slice A n c]) ∧ RdAt u w2 g l s4 ∧ w2.ownsRow u.heap.size 67 12 (.slice A n c) n (cellsS ss)) := Lib.hid fun g u h => by
          refine (def_s h).mono ?_
          rintro e w2 ⟨A, c, rfl, h1, h2⟩
          rw [hdn, hdl, hs4, hss]
          exact ⟨A, _, c, rfl, h1, h2⟩
        clear HSs hdn hdl hss
        clear hv hT hev het hs4
        have d0 := HT6.out.xb.cell 0
        simp only [List.getElem?_toArray, List.getElem?_cons_zero] at d0
        have cc := HT6.out.cell
        have k0 : (((q1 : Nat) : Int) == 0) = true := beq_iff_eq.2 (by omega)
        have HKq := Lib.hid hkq
        clear hkq
        go_wp2_with fail
        refine (HDf.out g _ HT6.out.rd).mono ?_
        rintro e ud ⟨A, n, c, rfl, hR, ho⟩
        have HTd := Lib.hid (HT6.out.call hR)
        have hown := own_lower ho HT6.out.bel.size
        have HOd := Lib.hid (hown.kept (setRow_grown ud w.heap.size #[.int .i64 (q1 : Nat), .int .i64 (q2 : Nat), .int .i64 (q3 : Nat), .string ⟨#[]⟩, .int .i64 0, .int .i64 0, .bool false, .int .i64 0, .bool false, .string dn, .int .i64 dl, .slice A n c]) (.inr (own_far hown HTd.out.xb (by decide))))
        have HTq := Lib.hid (HTd.out.row (by simp [noU]) #[.int .i64 (q1 : Nat), .int .i64 (q2 : Nat), .int .i64 (q3 : Nat), .string ⟨#[]⟩, .int .i64 0, .int .i64 0, .bool false, .int .i64 0, .bool false, .string dn, .int .i64 dl, .slice A n c])
        clear hR ho hown d0 cc k0
        have HT : Hid (Te w (ud.setRow w.heap.size #[.int .i64 (q1 : Nat), .int .i64 (q2 : Nat), .int .i64 (q3 : Nat), .string ⟨#[]⟩, .int .i64 0, .int .i64 0, .bool false, .int .i64 0, .bool false, .string dn, .int .i64 dl, .slice A n c]) w1.heap.size g w.heap.size l s4 v A n c) := Lib.hid (by rw [HVv.out]; exact ⟨HTq.out, HOd.out⟩)
        have c0 := HT.out.ts.cell
        go_wp2_with (refine wpList_store_part rfl 24 (.tmp 32) (.tmp 31) rfl (w.heap.size) 9 51 _ #[.string dn, .int .i64 dl, .slice A n c] #[.int .i64 (q1 : Nat), .int .i64 (q2 : Nat), .int .i64 (q3 : Nat), .string ⟨#[]⟩, .int .i64 0, .int .i64 0, .bool false, .int .i64 0, .bool false, .string dn, .int .i64 dl, .slice A n c] rfl rfl HTd.out.xb (by show (Try.prog.info? 24).map (·.size) = some 3; kernel_rfl) (Nat.le_of_ble_eq_true rfl) (by simp [Value.oneCell']) rfl ?_)
        clear HTq HOd HTd
        generalize ud.setRow w.heap.size #[.int .i64 (q1 : Nat), .int .i64 (q2 : Nat), .int .i64 (q3 : Nat), .string ⟨#[]⟩, .int .i64 0, .int .i64 0, .bool false, .int .i64 0, .bool false, .string dn, .int .i64 dl, .slice A n c] = ue at *
        clear c0
        refine wp_region_held_drew (S := fun v => v.cell? ⟨w1.heap.size, 0, none⟩ = some (.pointer (some ⟨g, 0, none⟩))) (by kernel_rfl) (HT.out.ts.drew.cell) (fun hHeld => ?_)
        have HD := Lib.hid HT.out.drew
        clear HT
        refine wpAnyH_take (i := 0) (oi := ⟨some 43, _, _, _, _, _⟩) (v := ?_) rfl (by kernel_rfl) (by kernel_rfl) (by kernel_rfl) (fun _ _ _ h => h) (Or.inl ⟨by rfl, ?_⟩) (by assumption) ?_
        rotate_left
        · (intro u hu; (try dsimp only at hu); go_simp; (try with_reducible rfl))
        (try simp only [Act.put, List.setIfInBounds_toArray, List.set_cons_zero, List.set_cons_succ])
        refine wpAnyH_ready (rs := [1, 2]) (by decide +kernel) (by simp) ?_
        refine AllReadyH.cons (o := ⟨some 44, _, _, _, _, _⟩) rfl (fun K hK => ?_) (AllReadyH.cons (o := ⟨some 45, _, _, _, _, _⟩) rfl (fun K hK => ?_) AllReadyH.nil)
        · obtain ⟨c0, c1, c2, c3, c4, c5, c6, c7, c8, c9, c10, c11⟩ := evc (v := v) HD.out.ts.xb
          go_simp
          refine hK.out _ _ ?_ (fun hHeld => ?_)
          · exact HD.out.ts.cell
          clear hK K c0 c1 c2 c3 c4 c5 c6 c7 c8 c9 c10 c11
          (try simp only [Act.put, List.setIfInBounds_toArray, List.set_cons_zero, List.set_cons_succ])
          refine wpAnyH_ready (rs := [2]) (by decide +kernel) (by simp) ?_
          refine AllReadyH.cons (o := ⟨some 45, _, _, _, _, _⟩) rfl (fun K hK => ?_) AllReadyH.nil
          obtain ⟨c0, c1, c2, c3, c4, c5, c6, c7, c8, c9, c10, c11⟩ := evc (v := v) HD.out.ts.xb
          go_simp
          refine hK.out _ _ ?_ (fun hHeld => ?_)
          · exact HD.out.ts.cell
          clear hK K c0 c1 c2 c3 c4 c5 c6 c7 c8 c9 c10 c11
          (try simp only [Act.put, List.setIfInBounds_toArray, List.set_cons_zero, List.set_cons_succ])
          refine wpAnyH_ready (rs := [3]) (by decide +kernel) (by simp) ?_
          refine AllReadyH.cons (o := ⟨some 46, _, _, _, _, _⟩) rfl (fun K hK => ?_) AllReadyH.nil
          go_simp
          refine (good_ev v A n c _ (HD.out.in_ HMo.out.1 HMo.out.2)).mono ?_
          rintro e wg ⟨rfl, hb⟩
          have HTg := Lib.hid (HD.out.below hb)
          clear hb
          go_wp2_with fail
          refine hK.out _ _ ?_ (fun hHeld => ?_)
          · exact HTg.out.ts.cell
          clear hK K
          (try simp only [Act.put, List.setIfInBounds_toArray, List.set_cons_zero, List.set_cons_succ])
          refine wpAnyH_ready (rs := [4]) (by decide +kernel) (by simp) ?_
          refine AllReadyH.cons (o := ⟨some 47, _, _, _, _, _⟩) rfl (fun K hK => ?_) AllReadyH.nil
          go_simp
          refine (taken_event v A n c (goodE v) HTg.out.ts.rd).mono ?_
          rintro e wt ⟨rfl, hR⟩
          rw [HTe.out] at hR ⊢
          have HTt := Lib.hid (HTg.out.call hR)
          obtain ⟨cs, a1, a2, hcs, hz, h1⟩ := taken_form T (goodE v) v A n c
          have HV := Lib.hid hcs
          have HZ := Lib.hid hz
          rw [hcs]
          clear hcs hz hR
          go_wp2_with fail
          refine hK.out _ _ ?_ (fun hHeld => ?_)
          · exact HTt.out.ts.cell
          clear hK K
          (try simp only [Act.put, List.setIfInBounds_toArray, List.set_cons_zero, List.set_cons_succ])
          refine wpAnyH_take (i := 5) (oi := ⟨some 48, _, _, _, _, _⟩) (v := ?_) rfl (by kernel_rfl) (by kernel_rfl) (by kernel_rfl) (fun _ _ _ h => h) (Or.inl ⟨by rfl, ?_⟩) (by assumption) ?_
          rotate_left
          · (intro u hu; (try dsimp only at hu); go_simp; (try with_reducible rfl))
          (try simp only [Act.put, List.setIfInBounds_toArray, List.set_cons_zero, List.set_cons_succ])
          refine wpAnyH_take (i := 6) (oi := ⟨some 49, _, _, _, _, _⟩) (v := ?_) rfl (by kernel_rfl) (by kernel_rfl) (by kernel_rfl) (fun _ _ _ h => h) (Or.inl ⟨by rfl, ?_⟩) (by assumption) ?_
          rotate_left
          · (intro u hu; (try dsimp only at hu); go_simp; (try with_reducible rfl))
          (try simp only [Act.put, List.setIfInBounds_toArray, List.set_cons_zero, List.set_cons_succ])
          refine wpAnyH_take (i := 7) (oi := ⟨some 50, _, _, _, _, _⟩) (v := ?_) rfl (by kernel_rfl) (by kernel_rfl) (by kernel_rfl) (fun _ _ _ h => h) (Or.inl ⟨by rfl, ?_⟩) (by assumption) ?_
          rotate_left
          · (intro u hu; (try dsimp only at hu); go_simp; (try with_reducible rfl))
          (try simp only [Act.put, List.setIfInBounds_toArray, List.set_cons_zero, List.set_cons_succ])
          refine wpAnyH_ready (rs := [8]) (by decide +kernel) (by simp) ?_
          refine AllReadyH.cons (o := ⟨none, _, _, _, _, _⟩) rfl (fun K hK => ?_) AllReadyH.nil
          rw [if_pos (by rfl)]
          refine oper_store 51 _ _ rfl (w.heap.size) 51 _ cs rfl rfl HTt.out.ts.xb (by rw [HZ.out]; kernel_rfl) (by rw [HZ.out]; rfl) h1 ?_
          have HTr := Lib.hid (HTt.out.ts.row (noU_ev v A n c) cs)
          refine hK.out _ _ ?_ (fun hHeld => ?_)
          · exact HTr.out.cell
          clear hK K
          (try simp only [Act.put])
          refine wpAnyH_take (i := 9) (oi := ⟨some 3, _, _, _, _, _⟩) (v := ?_) rfl (by kernel_rfl) (by kernel_rfl) (by kernel_rfl) (fun _ _ _ h => h) (Or.inl ⟨by rfl, ?_⟩) (by assumption) ?_
          rotate_left
          · (intro u hu; (try dsimp only at hu); go_simp; (try with_reducible rfl))
          (try simp only [Act.put, List.setIfInBounds_toArray, List.set_cons_zero, List.set_cons_succ])
          refine wpAnyH_take (i := 10) (oi := ⟨some 4, _, _, _, _, _⟩) (v := ?_) rfl (by kernel_rfl) (by kernel_rfl) (by kernel_rfl) (fun _ _ _ h => h) (Or.inl ⟨by rfl, ?_⟩) (by assumption) ?_
          rotate_left
          · (intro u hu; (try dsimp only at hu); go_simp; (try with_reducible rfl))
          (try simp only [Act.put, List.setIfInBounds_toArray, List.set_cons_zero, List.set_cons_succ])
          refine wpAnyH_done (by kernel_rfl) ?_ _
          go_wp2_with fail
          refine bodyPost_ret (res_ctt rfl _ _ (w.heap.size) cs Try.underlying51 (by rw [HZ.out]; kernel_rfl) rfl HTr.out.xb) rfl (HF.out _ _ _ _ _ HTt.out.len HTt.out.cap ?_ HTr.out.bel (by rw [HV.out]; rfl))
          exact steps_own (HTt.out.own.kept (setRow_grown wt w.heap.size cs) (.inr (own_far HTt.out.own HTt.out.ts.xb (by decide))))
        · obtain ⟨c0, c1, c2, c3, c4, c5, c6, c7, c8, c9, c10, c11⟩ := evc (v := v) HD.out.ts.xb
          go_simp
          refine hK.out _ _ ?_ (fun hHeld => ?_)
          · exact HD.out.ts.cell
          clear hK K c0 c1 c2 c3 c4 c5 c6 c7 c8 c9 c10 c11
          (try simp only [Act.put, List.setIfInBounds_toArray, List.set_cons_zero, List.set_cons_succ])
          refine wpAnyH_ready (rs := [1, 3]) (by decide +kernel) (by simp) ?_
          refine AllReadyH.cons (o := ⟨some 44, _, _, _, _, _⟩) rfl (fun K hK => ?_) (AllReadyH.cons (o := ⟨some 46, _, _, _, _, _⟩) rfl (fun K hK => ?_) AllReadyH.nil)
          · obtain ⟨c0, c1, c2, c3, c4, c5, c6, c7, c8, c9, c10, c11⟩ := evc (v := v) HD.out.ts.xb
            go_simp
            refine hK.out _ _ ?_ (fun hHeld => ?_)
            · exact HD.out.ts.cell
            clear hK K c0 c1 c2 c3 c4 c5 c6 c7 c8 c9 c10 c11
            (try simp only [Act.put, List.setIfInBounds_toArray, List.set_cons_zero, List.set_cons_succ])
            refine wpAnyH_ready (rs := [3]) (by decide +kernel) (by simp) ?_
            refine AllReadyH.cons (o := ⟨some 46, _, _, _, _, _⟩) rfl (fun K hK => ?_) AllReadyH.nil
            go_simp
            refine (good_ev v A n c _ (HD.out.in_ HMo.out.1 HMo.out.2)).mono ?_
            rintro e wg ⟨rfl, hb⟩
            have HTg := Lib.hid (HD.out.below hb)
            clear hb
            go_wp2_with fail
            refine hK.out _ _ ?_ (fun hHeld => ?_)
            · exact HTg.out.ts.cell
            clear hK K
            (try simp only [Act.put, List.setIfInBounds_toArray, List.set_cons_zero, List.set_cons_succ])
            refine wpAnyH_ready (rs := [4]) (by decide +kernel) (by simp) ?_
            refine AllReadyH.cons (o := ⟨some 47, _, _, _, _, _⟩) rfl (fun K hK => ?_) AllReadyH.nil
            go_simp
            refine (taken_event v A n c (goodE v) HTg.out.ts.rd).mono ?_
            rintro e wt ⟨rfl, hR⟩
            rw [HTe.out] at hR ⊢
            have HTt := Lib.hid (HTg.out.call hR)
            obtain ⟨cs, a1, a2, hcs, hz, h1⟩ := taken_form T (goodE v) v A n c
            have HV := Lib.hid hcs
            have HZ := Lib.hid hz
            rw [hcs]
            clear hcs hz hR
            go_wp2_with fail
            refine hK.out _ _ ?_ (fun hHeld => ?_)
            · exact HTt.out.ts.cell
            clear hK K
            (try simp only [Act.put, List.setIfInBounds_toArray, List.set_cons_zero, List.set_cons_succ])
            refine wpAnyH_take (i := 5) (oi := ⟨some 48, _, _, _, _, _⟩) (v := ?_) rfl (by kernel_rfl) (by kernel_rfl) (by kernel_rfl) (fun _ _ _ h => h) (Or.inl ⟨by rfl, ?_⟩) (by assumption) ?_
            rotate_left
            · (intro u hu; (try dsimp only at hu); go_simp; (try with_reducible rfl))
            (try simp only [Act.put, List.setIfInBounds_toArray, List.set_cons_zero, List.set_cons_succ])
            refine wpAnyH_take (i := 6) (oi := ⟨some 49, _, _, _, _, _⟩) (v := ?_) rfl (by kernel_rfl) (by kernel_rfl) (by kernel_rfl) (fun _ _ _ h => h) (Or.inl ⟨by rfl, ?_⟩) (by assumption) ?_
            rotate_left
            · (intro u hu; (try dsimp only at hu); go_simp; (try with_reducible rfl))
            (try simp only [Act.put, List.setIfInBounds_toArray, List.set_cons_zero, List.set_cons_succ])
            refine wpAnyH_take (i := 7) (oi := ⟨some 50, _, _, _, _, _⟩) (v := ?_) rfl (by kernel_rfl) (by kernel_rfl) (by kernel_rfl) (fun _ _ _ h => h) (Or.inl ⟨by rfl, ?_⟩) (by assumption) ?_
            rotate_left
            · (intro u hu; (try dsimp only at hu); go_simp; (try with_reducible rfl))
            (try simp only [Act.put, List.setIfInBounds_toArray, List.set_cons_zero, List.set_cons_succ])
            refine wpAnyH_ready (rs := [8]) (by decide +kernel) (by simp) ?_
            refine AllReadyH.cons (o := ⟨none, _, _, _, _, _⟩) rfl (fun K hK => ?_) AllReadyH.nil
            rw [if_pos (by rfl)]
            refine oper_store 51 _ _ rfl (w.heap.size) 51 _ cs rfl rfl HTt.out.ts.xb (by rw [HZ.out]; kernel_rfl) (by rw [HZ.out]; rfl) h1 ?_
            have HTr := Lib.hid (HTt.out.ts.row (noU_ev v A n c) cs)
            refine hK.out _ _ ?_ (fun hHeld => ?_)
            · exact HTr.out.cell
            clear hK K
            (try simp only [Act.put])
            refine wpAnyH_take (i := 9) (oi := ⟨some 3, _, _, _, _, _⟩) (v := ?_) rfl (by kernel_rfl) (by kernel_rfl) (by kernel_rfl) (fun _ _ _ h => h) (Or.inl ⟨by rfl, ?_⟩) (by assumption) ?_
            rotate_left
            · (intro u hu; (try dsimp only at hu); go_simp; (try with_reducible rfl))
            (try simp only [Act.put, List.setIfInBounds_toArray, List.set_cons_zero, List.set_cons_succ])
            refine wpAnyH_take (i := 10) (oi := ⟨some 4, _, _, _, _, _⟩) (v := ?_) rfl (by kernel_rfl) (by kernel_rfl) (by kernel_rfl) (fun _ _ _ h => h) (Or.inl ⟨by rfl, ?_⟩) (by assumption) ?_
            rotate_left
            · (intro u hu; (try dsimp only at hu); go_simp; (try with_reducible rfl))
            (try simp only [Act.put, List.setIfInBounds_toArray, List.set_cons_zero, List.set_cons_succ])
            refine wpAnyH_done (by kernel_rfl) ?_ _
            go_wp2_with fail
            refine bodyPost_ret (res_ctt rfl _ _ (w.heap.size) cs Try.underlying51 (by rw [HZ.out]; kernel_rfl) rfl HTr.out.xb) rfl (HF.out _ _ _ _ _ HTt.out.len HTt.out.cap ?_ HTr.out.bel (by rw [HV.out]; rfl))
            exact steps_own (HTt.out.own.kept (setRow_grown wt w.heap.size cs) (.inr (own_far HTt.out.own HTt.out.ts.xb (by decide))))
          · go_simp
            refine (good_ev v A n c _ (HD.out.in_ HMo.out.1 HMo.out.2)).mono ?_
            rintro e wg ⟨rfl, hb⟩
            have HTg := Lib.hid (HD.out.below hb)
            clear hb
            go_wp2_with fail
            refine hK.out _ _ ?_ (fun hHeld => ?_)
            · exact HTg.out.ts.cell
            clear hK K
            (try simp only [Act.put, List.setIfInBounds_toArray, List.set_cons_zero, List.set_cons_succ])
            refine wpAnyH_ready (rs := [1]) (by decide +kernel) (by simp) ?_
            refine AllReadyH.cons (o := ⟨some 44, _, _, _, _, _⟩) rfl (fun K hK => ?_) AllReadyH.nil
            obtain ⟨c0, c1, c2, c3, c4, c5, c6, c7, c8, c9, c10, c11⟩ := evc (v := v) HTg.out.ts.xb
            go_simp
            refine hK.out _ _ ?_ (fun hHeld => ?_)
            · exact HTg.out.ts.cell
            clear hK K c0 c1 c2 c3 c4 c5 c6 c7 c8 c9 c10 c11
            (try simp only [Act.put, List.setIfInBounds_toArray, List.set_cons_zero, List.set_cons_succ])
            refine wpAnyH_ready (rs := [4]) (by decide +kernel) (by simp) ?_
            refine AllReadyH.cons (o := ⟨some 47, _, _, _, _, _⟩) rfl (fun K hK => ?_) AllReadyH.nil
            go_simp
            refine (taken_event v A n c (goodE v) HTg.out.ts.rd).mono ?_
            rintro e wt ⟨rfl, hR⟩
            rw [HTe.out] at hR ⊢
            have HTt := Lib.hid (HTg.out.call hR)
            obtain ⟨cs, a1, a2, hcs, hz, h1⟩ := taken_form T (goodE v) v A n c
            have HV := Lib.hid hcs
            have HZ := Lib.hid hz
            rw [hcs]
            clear hcs hz hR
            go_wp2_with fail
            refine hK.out _ _ ?_ (fun hHeld => ?_)
            · exact HTt.out.ts.cell
            clear hK K
            (try simp only [Act.put, List.setIfInBounds_toArray, List.set_cons_zero, List.set_cons_succ])
            refine wpAnyH_take (i := 5) (oi := ⟨some 48, _, _, _, _, _⟩) (v := ?_) rfl (by kernel_rfl) (by kernel_rfl) (by kernel_rfl) (fun _ _ _ h => h) (Or.inl ⟨by rfl, ?_⟩) (by assumption) ?_
            rotate_left
            · (intro u hu; (try dsimp only at hu); go_simp; (try with_reducible rfl))
            (try simp only [Act.put, List.setIfInBounds_toArray, List.set_cons_zero, List.set_cons_succ])
            refine wpAnyH_take (i := 6) (oi := ⟨some 49, _, _, _, _, _⟩) (v := ?_) rfl (by kernel_rfl) (by kernel_rfl) (by kernel_rfl) (fun _ _ _ h => h) (Or.inl ⟨by rfl, ?_⟩) (by assumption) ?_
            rotate_left
            · (intro u hu; (try dsimp only at hu); go_simp; (try with_reducible rfl))
            (try simp only [Act.put, List.setIfInBounds_toArray, List.set_cons_zero, List.set_cons_succ])
            refine wpAnyH_take (i := 7) (oi := ⟨some 50, _, _, _, _, _⟩) (v := ?_) rfl (by kernel_rfl) (by kernel_rfl) (by kernel_rfl) (fun _ _ _ h => h) (Or.inl ⟨by rfl, ?_⟩) (by assumption) ?_
            rotate_left
            · (intro u hu; (try dsimp only at hu); go_simp; (try with_reducible rfl))
            (try simp only [Act.put, List.setIfInBounds_toArray, List.set_cons_zero, List.set_cons_succ])
            refine wpAnyH_ready (rs := [8]) (by decide +kernel) (by simp) ?_
            refine AllReadyH.cons (o := ⟨none, _, _, _, _, _⟩) rfl (fun K hK => ?_) AllReadyH.nil
            rw [if_pos (by rfl)]
            refine oper_store 51 _ _ rfl (w.heap.size) 51 _ cs rfl rfl HTt.out.ts.xb (by rw [HZ.out]; kernel_rfl) (by rw [HZ.out]; rfl) h1 ?_
            have HTr := Lib.hid (HTt.out.ts.row (noU_ev v A n c) cs)
            refine hK.out _ _ ?_ (fun hHeld => ?_)
            · exact HTr.out.cell
            clear hK K
            (try simp only [Act.put])
            refine wpAnyH_take (i := 9) (oi := ⟨some 3, _, _, _, _, _⟩) (v := ?_) rfl (by kernel_rfl) (by kernel_rfl) (by kernel_rfl) (fun _ _ _ h => h) (Or.inl ⟨by rfl, ?_⟩) (by assumption) ?_
            rotate_left
            · (intro u hu; (try dsimp only at hu); go_simp; (try with_reducible rfl))
            (try simp only [Act.put, List.setIfInBounds_toArray, List.set_cons_zero, List.set_cons_succ])
            refine wpAnyH_take (i := 10) (oi := ⟨some 4, _, _, _, _, _⟩) (v := ?_) rfl (by kernel_rfl) (by kernel_rfl) (by kernel_rfl) (fun _ _ _ h => h) (Or.inl ⟨by rfl, ?_⟩) (by assumption) ?_
            rotate_left
            · (intro u hu; (try dsimp only at hu); go_simp; (try with_reducible rfl))
            (try simp only [Act.put, List.setIfInBounds_toArray, List.set_cons_zero, List.set_cons_succ])
            refine wpAnyH_done (by kernel_rfl) ?_ _
            go_wp2_with fail
            refine bodyPost_ret (res_ctt rfl _ _ (w.heap.size) cs Try.underlying51 (by rw [HZ.out]; kernel_rfl) rfl HTr.out.xb) rfl (HF.out _ _ _ _ _ HTt.out.len HTt.out.cap ?_ HTr.out.bel (by rw [HV.out]; rfl))
            exact steps_own (HTt.out.own.kept (setRow_grown wt w.heap.size cs) (.inr (own_far HTt.out.own HTt.out.ts.xb (by decide))))
    by_cases hk1 : q1 = 1
    · as_aux_lemma =>
        have hk0 := hkq
        clear hkq
        have hkq := hk1
        clear hk1
        obtain ⟨nm, hnm⟩ : ∃ d, d = txtQ l s3 := ⟨_, rfl⟩
        obtain ⟨s4, hs4⟩ : ∃ d, d = txtS l s3 := ⟨_, rfl⟩
        obtain ⟨v, hv⟩ : ∃ v : Ev, v = ⟨q1, q2, q3, nm, rp0, tx0, 0, []⟩ := ⟨_, rfl⟩
        obtain ⟨T, hT⟩ : ∃ T, T = endS l s4 := ⟨_, rfl⟩
        have hev : evV l = v := by
          rw [hv, hnm]
          unfold evV
          rw [HS3.out, HN2.out, HN3.out, HK1.out, hkq]
          rfl
        have het : evE l = T := by
          rw [hT, hs4]
          unfold evE evS
          rw [HS3.out, HK1.out, hkq]
          rfl
        have HF : Hid (∀ (A : Option Addr) (n c : Nat) (e : Ending) (w' : World), n = v.ss.length → n ≤ c → Df.Steps w' w'.heap.size A v.ss → Below w.heap.size w w' → e = .returned (takenV T (goodE v) (.agg #[.int .i64 0, .int .i64 0, .int .i64 0, .string ⟨#[]⟩, .int .i64 0, .int .i64 0, .bool false, .int .i64 0, .bool false, .string ⟨#[]⟩, .int .i64 0, .slice none 0 0]) (.agg #[.int .i64 v.k, .int .i64 v.now, .int .i64 v.sg, .string v.nm, .int .i64 v.r.sg, .int .i64 v.r.sp, .bool v.r.un, .int .i64 v.r.tr, .bool v.r.good, .string v.dn, .int .i64 v.dl, .slice A n c])) → EvTo w (evA l) e w') := Lib.hid fun A n c e w' h1 h2 h3 h4 h5 => evTo_of (by rw [HK1.out]; omega) het hev h1 h2 h3 h4 h5
        have HMo : Hid (Mod v.dn v.ss ∧ v.nm.size ≤ 1000000) := Lib.hid (by
          have hf := fits_taken l
          rw [hev] at hf
          have hl : v.ss.length ≤ 32 := by
            rw [← hev]
            unfold evV
            dsimp only
            split
            · unfold defSs; rw [stepsQ_len]; exact cntQ_le _
            · exact Nat.zero_le _
          exact ⟨⟨by have := hf.2.1; omega, by omega, fun x hx => by have := hf.2.2 x hx; omega⟩, by have := hf.1; omega⟩)
        have HVv := Lib.hid hv
        have HTe : Hid (endS l s4 = T) := Lib.hid hT.symm
        have HDf : Hid (∀ g u, RdAt u u g l s3 → Calls Try.prog 43 #[.agg #[.pointer (some ⟨g, 0, none⟩)]] u fun e w2 => e = .returned (.string nm) ∧ RdAt u w2 g l s4) := Lib.hid fun g u h => by rw [hnm, hs4]; exact text_s h
        clear hnm
        clear hv hT hev het hs4
        have d0 := HT6.out.xb.cell 0
        simp only [List.getElem?_toArray, List.getElem?_cons_zero] at d0
        have cc := HT6.out.cell
        have k0 : (((q1 : Nat) : Int) == 0) = false := beq_false_of_ne (by omega)
        have k1 : (((q1 : Nat) : Int) == 1) = true := beq_iff_eq.2 (by omega)
        have HKq := Lib.hid hkq
        clear hkq
        go_wp2_with fail
        refine (HDf.out g _ HT6.out.rd).mono ?_
        rintro e ud ⟨rfl, hR⟩
        have HTd := Lib.hid (HT6.out.call hR)
        have d := HTd.out.xb.cell 3
        simp only [List.getElem?_toArray, List.getElem?_cons_zero, List.getElem?_cons_succ] at d
        have f := HTd.out.xb.frozen 3
        clear hR d0 cc k0 k1
        have HT : Hid (Te w (ud.setCell ⟨w.heap.size, 3, none⟩ (.string nm)) w1.heap.size g w.heap.size l s4 v none 0 0) := Lib.hid (by rw [HVv.out]; exact ⟨HTd.out.put (by simp [noU]) 3 (.string nm), World.ownsRow_nil _ _ _ _⟩)
        have c0 := HT.out.ts.cell
        go_wp2_with fail
        clear d f HTd
        generalize ud.setCell ⟨w.heap.size, 3, none⟩ (.string nm) = ue at *
        obtain ⟨A, hA⟩ : ∃ A : Option Addr, A = none := ⟨_, rfl⟩
        obtain ⟨n, hn⟩ : ∃ n : Nat, n = 0 := ⟨_, rfl⟩
        obtain ⟨c, hc⟩ : ∃ c : Nat, c = 0 := ⟨_, rfl⟩
        have HT : Hid (Te w ue w1.heap.size g w.heap.size l s4 v A n c) := Lib.hid (by rw [hA, hn, hc]; exact HT.out)
        clear hA hn hc
        clear c0
        refine wp_region_held_drew (S := fun v => v.cell? ⟨w1.heap.size, 0, none⟩ = some (.pointer (some ⟨g, 0, none⟩))) (by kernel_rfl) (HT.out.ts.drew.cell) (fun hHeld => ?_)
        have HD := Lib.hid HT.out.drew
        clear HT
        refine wpAnyH_take (i := 0) (oi := ⟨some 43, _, _, _, _, _⟩) (v := ?_) rfl (by kernel_rfl) (by kernel_rfl) (by kernel_rfl) (fun _ _ _ h => h) (Or.inl ⟨by rfl, ?_⟩) (by assumption) ?_
        rotate_left
        · (intro u hu; (try dsimp only at hu); go_simp; (try with_reducible rfl))
        (try simp only [Act.put, List.setIfInBounds_toArray, List.set_cons_zero, List.set_cons_succ])
        refine wpAnyH_ready (rs := [1, 2]) (by decide +kernel) (by simp) ?_
        refine AllReadyH.cons (o := ⟨some 44, _, _, _, _, _⟩) rfl (fun K hK => ?_) (AllReadyH.cons (o := ⟨some 45, _, _, _, _, _⟩) rfl (fun K hK => ?_) AllReadyH.nil)
        · obtain ⟨c0, c1, c2, c3, c4, c5, c6, c7, c8, c9, c10, c11⟩ := evc (v := v) HD.out.ts.xb
          go_simp
          refine hK.out _ _ ?_ (fun hHeld => ?_)
          · exact HD.out.ts.cell
          clear hK K c0 c1 c2 c3 c4 c5 c6 c7 c8 c9 c10 c11
          (try simp only [Act.put, List.setIfInBounds_toArray, List.set_cons_zero, List.set_cons_succ])
          refine wpAnyH_ready (rs := [2]) (by decide +kernel) (by simp) ?_
          refine AllReadyH.cons (o := ⟨some 45, _, _, _, _, _⟩) rfl (fun K hK => ?_) AllReadyH.nil
          obtain ⟨c0, c1, c2, c3, c4, c5, c6, c7, c8, c9, c10, c11⟩ := evc (v := v) HD.out.ts.xb
          go_simp
          refine hK.out _ _ ?_ (fun hHeld => ?_)
          · exact HD.out.ts.cell
          clear hK K c0 c1 c2 c3 c4 c5 c6 c7 c8 c9 c10 c11
          (try simp only [Act.put, List.setIfInBounds_toArray, List.set_cons_zero, List.set_cons_succ])
          refine wpAnyH_ready (rs := [3]) (by decide +kernel) (by simp) ?_
          refine AllReadyH.cons (o := ⟨some 46, _, _, _, _, _⟩) rfl (fun K hK => ?_) AllReadyH.nil
          go_simp
          refine (good_ev v A n c _ (HD.out.in_ HMo.out.1 HMo.out.2)).mono ?_
          rintro e wg ⟨rfl, hb⟩
          have HTg := Lib.hid (HD.out.below hb)
          clear hb
          go_wp2_with fail
          refine hK.out _ _ ?_ (fun hHeld => ?_)
          · exact HTg.out.ts.cell
          clear hK K
          (try simp only [Act.put, List.setIfInBounds_toArray, List.set_cons_zero, List.set_cons_succ])
          refine wpAnyH_ready (rs := [4]) (by decide +kernel) (by simp) ?_
          refine AllReadyH.cons (o := ⟨some 47, _, _, _, _, _⟩) rfl (fun K hK => ?_) AllReadyH.nil
          go_simp
          refine (taken_event v A n c (goodE v) HTg.out.ts.rd).mono ?_
          rintro e wt ⟨rfl, hR⟩
          rw [HTe.out] at hR ⊢
          have HTt := Lib.hid (HTg.out.call hR)
          obtain ⟨cs, a1, a2, hcs, hz, h1⟩ := taken_form T (goodE v) v A n c
          have HV := Lib.hid hcs
          have HZ := Lib.hid hz
          rw [hcs]
          clear hcs hz hR
          go_wp2_with fail
          refine hK.out _ _ ?_ (fun hHeld => ?_)
          · exact HTt.out.ts.cell
          clear hK K
          (try simp only [Act.put, List.setIfInBounds_toArray, List.set_cons_zero, List.set_cons_succ])
          refine wpAnyH_take (i := 5) (oi := ⟨some 48, _, _, _, _, _⟩) (v := ?_) rfl (by kernel_rfl) (by kernel_rfl) (by kernel_rfl) (fun _ _ _ h => h) (Or.inl ⟨by rfl, ?_⟩) (by assumption) ?_
          rotate_left
          · (intro u hu; (try dsimp only at hu); go_simp; (try with_reducible rfl))
          (try simp only [Act.put, List.setIfInBounds_toArray, List.set_cons_zero, List.set_cons_succ])
          refine wpAnyH_take (i := 6) (oi := ⟨some 49, _, _, _, _, _⟩) (v := ?_) rfl (by kernel_rfl) (by kernel_rfl) (by kernel_rfl) (fun _ _ _ h => h) (Or.inl ⟨by rfl, ?_⟩) (by assumption) ?_
          rotate_left
          · (intro u hu; (try dsimp only at hu); go_simp; (try with_reducible rfl))
          (try simp only [Act.put, List.setIfInBounds_toArray, List.set_cons_zero, List.set_cons_succ])
          refine wpAnyH_take (i := 7) (oi := ⟨some 50, _, _, _, _, _⟩) (v := ?_) rfl (by kernel_rfl) (by kernel_rfl) (by kernel_rfl) (fun _ _ _ h => h) (Or.inl ⟨by rfl, ?_⟩) (by assumption) ?_
          rotate_left
          · (intro u hu; (try dsimp only at hu); go_simp; (try with_reducible rfl))
          (try simp only [Act.put, List.setIfInBounds_toArray, List.set_cons_zero, List.set_cons_succ])
          refine wpAnyH_ready (rs := [8]) (by decide +kernel) (by simp) ?_
          refine AllReadyH.cons (o := ⟨none, _, _, _, _, _⟩) rfl (fun K hK => ?_) AllReadyH.nil
          rw [if_pos (by rfl)]
          refine oper_store 51 _ _ rfl (w.heap.size) 51 _ cs rfl rfl HTt.out.ts.xb (by rw [HZ.out]; kernel_rfl) (by rw [HZ.out]; rfl) h1 ?_
          have HTr := Lib.hid (HTt.out.ts.row (noU_ev v A n c) cs)
          refine hK.out _ _ ?_ (fun hHeld => ?_)
          · exact HTr.out.cell
          clear hK K
          (try simp only [Act.put])
          refine wpAnyH_take (i := 9) (oi := ⟨some 3, _, _, _, _, _⟩) (v := ?_) rfl (by kernel_rfl) (by kernel_rfl) (by kernel_rfl) (fun _ _ _ h => h) (Or.inl ⟨by rfl, ?_⟩) (by assumption) ?_
          rotate_left
          · (intro u hu; (try dsimp only at hu); go_simp; (try with_reducible rfl))
          (try simp only [Act.put, List.setIfInBounds_toArray, List.set_cons_zero, List.set_cons_succ])
          refine wpAnyH_take (i := 10) (oi := ⟨some 4, _, _, _, _, _⟩) (v := ?_) rfl (by kernel_rfl) (by kernel_rfl) (by kernel_rfl) (fun _ _ _ h => h) (Or.inl ⟨by rfl, ?_⟩) (by assumption) ?_
          rotate_left
          · (intro u hu; (try dsimp only at hu); go_simp; (try with_reducible rfl))
          (try simp only [Act.put, List.setIfInBounds_toArray, List.set_cons_zero, List.set_cons_succ])
          refine wpAnyH_done (by kernel_rfl) ?_ _
          go_wp2_with fail
          refine bodyPost_ret (res_ctt rfl _ _ (w.heap.size) cs Try.underlying51 (by rw [HZ.out]; kernel_rfl) rfl HTr.out.xb) rfl (HF.out _ _ _ _ _ HTt.out.len HTt.out.cap ?_ HTr.out.bel (by rw [HV.out]; rfl))
          exact steps_own (HTt.out.own.kept (setRow_grown wt w.heap.size cs) (.inr (own_far HTt.out.own HTt.out.ts.xb (by decide))))
        · obtain ⟨c0, c1, c2, c3, c4, c5, c6, c7, c8, c9, c10, c11⟩ := evc (v := v) HD.out.ts.xb
          go_simp
          refine hK.out _ _ ?_ (fun hHeld => ?_)
          · exact HD.out.ts.cell
          clear hK K c0 c1 c2 c3 c4 c5 c6 c7 c8 c9 c10 c11
          (try simp only [Act.put, List.setIfInBounds_toArray, List.set_cons_zero, List.set_cons_succ])
          refine wpAnyH_ready (rs := [1, 3]) (by decide +kernel) (by simp) ?_
          refine AllReadyH.cons (o := ⟨some 44, _, _, _, _, _⟩) rfl (fun K hK => ?_) (AllReadyH.cons (o := ⟨some 46, _, _, _, _, _⟩) rfl (fun K hK => ?_) AllReadyH.nil)
          · obtain ⟨c0, c1, c2, c3, c4, c5, c6, c7, c8, c9, c10, c11⟩ := evc (v := v) HD.out.ts.xb
            go_simp
            refine hK.out _ _ ?_ (fun hHeld => ?_)
            · exact HD.out.ts.cell
            clear hK K c0 c1 c2 c3 c4 c5 c6 c7 c8 c9 c10 c11
            (try simp only [Act.put, List.setIfInBounds_toArray, List.set_cons_zero, List.set_cons_succ])
            refine wpAnyH_ready (rs := [3]) (by decide +kernel) (by simp) ?_
            refine AllReadyH.cons (o := ⟨some 46, _, _, _, _, _⟩) rfl (fun K hK => ?_) AllReadyH.nil
            go_simp
            refine (good_ev v A n c _ (HD.out.in_ HMo.out.1 HMo.out.2)).mono ?_
            rintro e wg ⟨rfl, hb⟩
            have HTg := Lib.hid (HD.out.below hb)
            clear hb
            go_wp2_with fail
            refine hK.out _ _ ?_ (fun hHeld => ?_)
            · exact HTg.out.ts.cell
            clear hK K
            (try simp only [Act.put, List.setIfInBounds_toArray, List.set_cons_zero, List.set_cons_succ])
            refine wpAnyH_ready (rs := [4]) (by decide +kernel) (by simp) ?_
            refine AllReadyH.cons (o := ⟨some 47, _, _, _, _, _⟩) rfl (fun K hK => ?_) AllReadyH.nil
            go_simp
            refine (taken_event v A n c (goodE v) HTg.out.ts.rd).mono ?_
            rintro e wt ⟨rfl, hR⟩
            rw [HTe.out] at hR ⊢
            have HTt := Lib.hid (HTg.out.call hR)
            obtain ⟨cs, a1, a2, hcs, hz, h1⟩ := taken_form T (goodE v) v A n c
            have HV := Lib.hid hcs
            have HZ := Lib.hid hz
            rw [hcs]
            clear hcs hz hR
            go_wp2_with fail
            refine hK.out _ _ ?_ (fun hHeld => ?_)
            · exact HTt.out.ts.cell
            clear hK K
            (try simp only [Act.put, List.setIfInBounds_toArray, List.set_cons_zero, List.set_cons_succ])
            refine wpAnyH_take (i := 5) (oi := ⟨some 48, _, _, _, _, _⟩) (v := ?_) rfl (by kernel_rfl) (by kernel_rfl) (by kernel_rfl) (fun _ _ _ h => h) (Or.inl ⟨by rfl, ?_⟩) (by assumption) ?_
            rotate_left
            · (intro u hu; (try dsimp only at hu); go_simp; (try with_reducible rfl))
            (try simp only [Act.put, List.setIfInBounds_toArray, List.set_cons_zero, List.set_cons_succ])
            refine wpAnyH_take (i := 6) (oi := ⟨some 49, _, _, _, _, _⟩) (v := ?_) rfl (by kernel_rfl) (by kernel_rfl) (by kernel_rfl) (fun _ _ _ h => h) (Or.inl ⟨by rfl, ?_⟩) (by assumption) ?_
            rotate_left
            · (intro u hu; (try dsimp only at hu); go_simp; (try with_reducible rfl))
            (try simp only [Act.put, List.setIfInBounds_toArray, List.set_cons_zero, List.set_cons_succ])
            refine wpAnyH_take (i := 7) (oi := ⟨some 50, _, _, _, _, _⟩) (v := ?_) rfl (by kernel_rfl) (by kernel_rfl) (by kernel_rfl) (fun _ _ _ h => h) (Or.inl ⟨by rfl, ?_⟩) (by assumption) ?_
            rotate_left
            · (intro u hu; (try dsimp only at hu); go_simp; (try with_reducible rfl))
            (try simp only [Act.put, List.setIfInBounds_toArray, List.set_cons_zero, List.set_cons_succ])
            refine wpAnyH_ready (rs := [8]) (by decide +kernel) (by simp) ?_
            refine AllReadyH.cons (o := ⟨none, _, _, _, _, _⟩) rfl (fun K hK => ?_) AllReadyH.nil
            rw [if_pos (by rfl)]
            refine oper_store 51 _ _ rfl (w.heap.size) 51 _ cs rfl rfl HTt.out.ts.xb (by rw [HZ.out]; kernel_rfl) (by rw [HZ.out]; rfl) h1 ?_
            have HTr := Lib.hid (HTt.out.ts.row (noU_ev v A n c) cs)
            refine hK.out _ _ ?_ (fun hHeld => ?_)
            · exact HTr.out.cell
            clear hK K
            (try simp only [Act.put])
            refine wpAnyH_take (i := 9) (oi := ⟨some 3, _, _, _, _, _⟩) (v := ?_) rfl (by kernel_rfl) (by kernel_rfl) (by kernel_rfl) (fun _ _ _ h => h) (Or.inl ⟨by rfl, ?_⟩) (by assumption) ?_
            rotate_left
            · (intro u hu; (try dsimp only at hu); go_simp; (try with_reducible rfl))
            (try simp only [Act.put, List.setIfInBounds_toArray, List.set_cons_zero, List.set_cons_succ])
            refine wpAnyH_take (i := 10) (oi := ⟨some 4, _, _, _, _, _⟩) (v := ?_) rfl (by kernel_rfl) (by kernel_rfl) (by kernel_rfl) (fun _ _ _ h => h) (Or.inl ⟨by rfl, ?_⟩) (by assumption) ?_
            rotate_left
            · (intro u hu; (try dsimp only at hu); go_simp; (try with_reducible rfl))
            (try simp only [Act.put, List.setIfInBounds_toArray, List.set_cons_zero, List.set_cons_succ])
            refine wpAnyH_done (by kernel_rfl) ?_ _
            go_wp2_with fail
            refine bodyPost_ret (res_ctt rfl _ _ (w.heap.size) cs Try.underlying51 (by rw [HZ.out]; kernel_rfl) rfl HTr.out.xb) rfl (HF.out _ _ _ _ _ HTt.out.len HTt.out.cap ?_ HTr.out.bel (by rw [HV.out]; rfl))
            exact steps_own (HTt.out.own.kept (setRow_grown wt w.heap.size cs) (.inr (own_far HTt.out.own HTt.out.ts.xb (by decide))))
          · go_simp
            refine (good_ev v A n c _ (HD.out.in_ HMo.out.1 HMo.out.2)).mono ?_
            rintro e wg ⟨rfl, hb⟩
            have HTg := Lib.hid (HD.out.below hb)
            clear hb
            go_wp2_with fail
            refine hK.out _ _ ?_ (fun hHeld => ?_)
            · exact HTg.out.ts.cell
            clear hK K
            (try simp only [Act.put, List.setIfInBounds_toArray, List.set_cons_zero, List.set_cons_succ])
            refine wpAnyH_ready (rs := [1]) (by decide +kernel) (by simp) ?_
            refine AllReadyH.cons (o := ⟨some 44, _, _, _, _, _⟩) rfl (fun K hK => ?_) AllReadyH.nil
            obtain ⟨c0, c1, c2, c3, c4, c5, c6, c7, c8, c9, c10, c11⟩ := evc (v := v) HTg.out.ts.xb
            go_simp
            refine hK.out _ _ ?_ (fun hHeld => ?_)
            · exact HTg.out.ts.cell
            clear hK K c0 c1 c2 c3 c4 c5 c6 c7 c8 c9 c10 c11
            (try simp only [Act.put, List.setIfInBounds_toArray, List.set_cons_zero, List.set_cons_succ])
            refine wpAnyH_ready (rs := [4]) (by decide +kernel) (by simp) ?_
            refine AllReadyH.cons (o := ⟨some 47, _, _, _, _, _⟩) rfl (fun K hK => ?_) AllReadyH.nil
            go_simp
            refine (taken_event v A n c (goodE v) HTg.out.ts.rd).mono ?_
            rintro e wt ⟨rfl, hR⟩
            rw [HTe.out] at hR ⊢
            have HTt := Lib.hid (HTg.out.call hR)
            obtain ⟨cs, a1, a2, hcs, hz, h1⟩ := taken_form T (goodE v) v A n c
            have HV := Lib.hid hcs
            have HZ := Lib.hid hz
            rw [hcs]
            clear hcs hz hR
            go_wp2_with fail
            refine hK.out _ _ ?_ (fun hHeld => ?_)
            · exact HTt.out.ts.cell
            clear hK K
            (try simp only [Act.put, List.setIfInBounds_toArray, List.set_cons_zero, List.set_cons_succ])
            refine wpAnyH_take (i := 5) (oi := ⟨some 48, _, _, _, _, _⟩) (v := ?_) rfl (by kernel_rfl) (by kernel_rfl) (by kernel_rfl) (fun _ _ _ h => h) (Or.inl ⟨by rfl, ?_⟩) (by assumption) ?_
            rotate_left
            · (intro u hu; (try dsimp only at hu); go_simp; (try with_reducible rfl))
            (try simp only [Act.put, List.setIfInBounds_toArray, List.set_cons_zero, List.set_cons_succ])
            refine wpAnyH_take (i := 6) (oi := ⟨some 49, _, _, _, _, _⟩) (v := ?_) rfl (by kernel_rfl) (by kernel_rfl) (by kernel_rfl) (fun _ _ _ h => h) (Or.inl ⟨by rfl, ?_⟩) (by assumption) ?_
            rotate_left
            · (intro u hu; (try dsimp only at hu); go_simp; (try with_reducible rfl))
            (try simp only [Act.put, List.setIfInBounds_toArray, List.set_cons_zero, List.set_cons_succ])
            refine wpAnyH_take (i := 7) (oi := ⟨some 50, _, _, _, _, _⟩) (v := ?_) rfl (by kernel_rfl) (by kernel_rfl) (by kernel_rfl) (fun _ _ _ h => h) (Or.inl ⟨by rfl, ?_⟩) (by assumption) ?_
            rotate_left
            · (intro u hu; (try dsimp only at hu); go_simp; (try with_reducible rfl))
            (try simp only [Act.put, List.setIfInBounds_toArray, List.set_cons_zero, List.set_cons_succ])
            refine wpAnyH_ready (rs := [8]) (by decide +kernel) (by simp) ?_
            refine AllReadyH.cons (o := ⟨none, _, _, _, _, _⟩) rfl (fun K hK => ?_) AllReadyH.nil
            rw [if_pos (by rfl)]
            refine oper_store 51 _ _ rfl (w.heap.size) 51 _ cs rfl rfl HTt.out.ts.xb (by rw [HZ.out]; kernel_rfl) (by rw [HZ.out]; rfl) h1 ?_
            have HTr := Lib.hid (HTt.out.ts.row (noU_ev v A n c) cs)
            refine hK.out _ _ ?_ (fun hHeld => ?_)
            · exact HTr.out.cell
            clear hK K
            (try simp only [Act.put])
            refine wpAnyH_take (i := 9) (oi := ⟨some 3, _, _, _, _, _⟩) (v := ?_) rfl (by kernel_rfl) (by kernel_rfl) (by kernel_rfl) (fun _ _ _ h => h) (Or.inl ⟨by rfl, ?_⟩) (by assumption) ?_
            rotate_left
            · (intro u hu; (try dsimp only at hu); go_simp; (try with_reducible rfl))
            (try simp only [Act.put, List.setIfInBounds_toArray, List.set_cons_zero, List.set_cons_succ])
            refine wpAnyH_take (i := 10) (oi := ⟨some 4, _, _, _, _, _⟩) (v := ?_) rfl (by kernel_rfl) (by kernel_rfl) (by kernel_rfl) (fun _ _ _ h => h) (Or.inl ⟨by rfl, ?_⟩) (by assumption) ?_
            rotate_left
            · (intro u hu; (try dsimp only at hu); go_simp; (try with_reducible rfl))
            (try simp only [Act.put, List.setIfInBounds_toArray, List.set_cons_zero, List.set_cons_succ])
            refine wpAnyH_done (by kernel_rfl) ?_ _
            go_wp2_with fail
            refine bodyPost_ret (res_ctt rfl _ _ (w.heap.size) cs Try.underlying51 (by rw [HZ.out]; kernel_rfl) rfl HTr.out.xb) rfl (HF.out _ _ _ _ _ HTt.out.len HTt.out.cap ?_ HTr.out.bel (by rw [HV.out]; rfl))
            exact steps_own (HTt.out.own.kept (setRow_grown wt w.heap.size cs) (.inr (own_far HTt.out.own HTt.out.ts.xb (by decide))))
    by_cases hk3 : q1 = 3
    · as_aux_lemma =>
        clear hkq hk1
        have hkq := hk3
        clear hk3
        obtain ⟨rp, hrp⟩ : ∃ d, d = replyQ l s3 := ⟨_, rfl⟩
        obtain ⟨s4, hs4⟩ : ∃ d, d = replyS l s3 := ⟨_, rfl⟩
        obtain ⟨v, hv⟩ : ∃ v : Ev, v = ⟨q1, q2, q3, tx0, rp, tx0, 0, []⟩ := ⟨_, rfl⟩
        obtain ⟨T, hT⟩ : ∃ T, T = endS l s4 := ⟨_, rfl⟩
        have hev : evV l = v := by
          rw [hv, hrp]
          unfold evV
          rw [HS3.out, HN2.out, HN3.out, HK1.out, hkq]
          rfl
        have het : evE l = T := by
          rw [hT, hs4]
          unfold evE evS
          rw [HS3.out, HK1.out, hkq]
          rfl
        have HF : Hid (∀ (A : Option Addr) (n c : Nat) (e : Ending) (w' : World), n = v.ss.length → n ≤ c → Df.Steps w' w'.heap.size A v.ss → Below w.heap.size w w' → e = .returned (takenV T (goodE v) (.agg #[.int .i64 0, .int .i64 0, .int .i64 0, .string ⟨#[]⟩, .int .i64 0, .int .i64 0, .bool false, .int .i64 0, .bool false, .string ⟨#[]⟩, .int .i64 0, .slice none 0 0]) (.agg #[.int .i64 v.k, .int .i64 v.now, .int .i64 v.sg, .string v.nm, .int .i64 v.r.sg, .int .i64 v.r.sp, .bool v.r.un, .int .i64 v.r.tr, .bool v.r.good, .string v.dn, .int .i64 v.dl, .slice A n c])) → EvTo w (evA l) e w') := Lib.hid fun A n c e w' h1 h2 h3 h4 h5 => evTo_of (by rw [HK1.out]; omega) het hev h1 h2 h3 h4 h5
        have HMo : Hid (Mod v.dn v.ss ∧ v.nm.size ≤ 1000000) := Lib.hid (by
          have hf := fits_taken l
          rw [hev] at hf
          have hl : v.ss.length ≤ 32 := by
            rw [← hev]
            unfold evV
            dsimp only
            split
            · unfold defSs; rw [stepsQ_len]; exact cntQ_le _
            · exact Nat.zero_le _
          exact ⟨⟨by have := hf.2.1; omega, by omega, fun x hx => by have := hf.2.2 x hx; omega⟩, by have := hf.1; omega⟩)
        have HVv := Lib.hid hv
        have HTe : Hid (endS l s4 = T) := Lib.hid hT.symm
        have HDf : Hid (∀ g u, RdAt u u g l s3 → Calls Try.prog 51 #[.agg #[.pointer (some ⟨g, 0, none⟩)]] u fun e w2 => e = .returned (.agg #[.int .i64 rp.sg, .int .i64 rp.sp, .bool rp.un, .int .i64 rp.tr, .bool rp.good]) ∧ RdAt u w2 g l s4) := Lib.hid fun g u h => by rw [hrp, hs4]; exact reply_s h
        clear hrp
        clear hv hT hev het hs4
        have d0 := HT6.out.xb.cell 0
        simp only [List.getElem?_toArray, List.getElem?_cons_zero] at d0
        have cc := HT6.out.cell
        have k0 : (((q1 : Nat) : Int) == 0) = false := beq_false_of_ne (by omega)
        have k1 : (((q1 : Nat) : Int) == 1) = false := beq_false_of_ne (by omega)
        have k3 : (((q1 : Nat) : Int) == 3) = true := beq_iff_eq.2 (by omega)
        have HKq := Lib.hid hkq
        clear hkq
        go_wp2_with fail
        refine (HDf.out g _ HT6.out.rd).mono ?_
        rintro e ud ⟨rfl, hR⟩
        have HTd := Lib.hid (HT6.out.call hR)
        clear hR d0 cc k0 k1 k3
        have HT : Hid (Te w (ud.setRow w.heap.size #[.int .i64 (q1 : Nat), .int .i64 (q2 : Nat), .int .i64 (q3 : Nat), .string ⟨#[]⟩, .int .i64 rp.sg, .int .i64 rp.sp, .bool rp.un, .int .i64 rp.tr, .bool rp.good, .string ⟨#[]⟩, .int .i64 0, .slice none 0 0]) w1.heap.size g w.heap.size l s4 v none 0 0) := Lib.hid (by rw [HVv.out]; exact ⟨HTd.out.row (by simp [noU]) #[.int .i64 (q1 : Nat), .int .i64 (q2 : Nat), .int .i64 (q3 : Nat), .string ⟨#[]⟩, .int .i64 rp.sg, .int .i64 rp.sp, .bool rp.un, .int .i64 rp.tr, .bool rp.good, .string ⟨#[]⟩, .int .i64 0, .slice none 0 0], World.ownsRow_nil _ _ _ _⟩)
        have c0 := HT.out.ts.cell
        go_wp2_with (refine wpList_store_part rfl 49 (.tmp 42) (.tmp 41) rfl (w.heap.size) 4 51 _ #[.int .i64 rp.sg, .int .i64 rp.sp, .bool rp.un, .int .i64 rp.tr, .bool rp.good] #[.int .i64 (q1 : Nat), .int .i64 (q2 : Nat), .int .i64 (q3 : Nat), .string ⟨#[]⟩, .int .i64 rp.sg, .int .i64 rp.sp, .bool rp.un, .int .i64 rp.tr, .bool rp.good, .string ⟨#[]⟩, .int .i64 0, .slice none 0 0] rfl rfl HTd.out.xb (by show (Try.prog.info? 49).map (·.size) = some 5; kernel_rfl) (Nat.le_of_ble_eq_true rfl) (by simp [Value.oneCell']) rfl ?_)
        clear HTd
        generalize ud.setRow w.heap.size #[.int .i64 (q1 : Nat), .int .i64 (q2 : Nat), .int .i64 (q3 : Nat), .string ⟨#[]⟩, .int .i64 rp.sg, .int .i64 rp.sp, .bool rp.un, .int .i64 rp.tr, .bool rp.good, .string ⟨#[]⟩, .int .i64 0, .slice none 0 0] = ue at *
        obtain ⟨A, hA⟩ : ∃ A : Option Addr, A = none := ⟨_, rfl⟩
        obtain ⟨n, hn⟩ : ∃ n : Nat, n = 0 := ⟨_, rfl⟩
        obtain ⟨c, hc⟩ : ∃ c : Nat, c = 0 := ⟨_, rfl⟩
        have HT : Hid (Te w ue w1.heap.size g w.heap.size l s4 v A n c) := Lib.hid (by rw [hA, hn, hc]; exact HT.out)
        clear hA hn hc
        clear c0
        refine wp_region_held_drew (S := fun v => v.cell? ⟨w1.heap.size, 0, none⟩ = some (.pointer (some ⟨g, 0, none⟩))) (by kernel_rfl) (HT.out.ts.drew.cell) (fun hHeld => ?_)
        have HD := Lib.hid HT.out.drew
        clear HT
        refine wpAnyH_take (i := 0) (oi := ⟨some 43, _, _, _, _, _⟩) (v := ?_) rfl (by kernel_rfl) (by kernel_rfl) (by kernel_rfl) (fun _ _ _ h => h) (Or.inl ⟨by rfl, ?_⟩) (by assumption) ?_
        rotate_left
        · (intro u hu; (try dsimp only at hu); go_simp; (try with_reducible rfl))
        (try simp only [Act.put, List.setIfInBounds_toArray, List.set_cons_zero, List.set_cons_succ])
        refine wpAnyH_ready (rs := [1, 2]) (by decide +kernel) (by simp) ?_
        refine AllReadyH.cons (o := ⟨some 44, _, _, _, _, _⟩) rfl (fun K hK => ?_) (AllReadyH.cons (o := ⟨some 45, _, _, _, _, _⟩) rfl (fun K hK => ?_) AllReadyH.nil)
        · obtain ⟨c0, c1, c2, c3, c4, c5, c6, c7, c8, c9, c10, c11⟩ := evc (v := v) HD.out.ts.xb
          go_simp
          refine hK.out _ _ ?_ (fun hHeld => ?_)
          · exact HD.out.ts.cell
          clear hK K c0 c1 c2 c3 c4 c5 c6 c7 c8 c9 c10 c11
          (try simp only [Act.put, List.setIfInBounds_toArray, List.set_cons_zero, List.set_cons_succ])
          refine wpAnyH_ready (rs := [2]) (by decide +kernel) (by simp) ?_
          refine AllReadyH.cons (o := ⟨some 45, _, _, _, _, _⟩) rfl (fun K hK => ?_) AllReadyH.nil
          obtain ⟨c0, c1, c2, c3, c4, c5, c6, c7, c8, c9, c10, c11⟩ := evc (v := v) HD.out.ts.xb
          go_simp
          refine hK.out _ _ ?_ (fun hHeld => ?_)
          · exact HD.out.ts.cell
          clear hK K c0 c1 c2 c3 c4 c5 c6 c7 c8 c9 c10 c11
          (try simp only [Act.put, List.setIfInBounds_toArray, List.set_cons_zero, List.set_cons_succ])
          refine wpAnyH_ready (rs := [3]) (by decide +kernel) (by simp) ?_
          refine AllReadyH.cons (o := ⟨some 46, _, _, _, _, _⟩) rfl (fun K hK => ?_) AllReadyH.nil
          go_simp
          refine (good_ev v A n c _ (HD.out.in_ HMo.out.1 HMo.out.2)).mono ?_
          rintro e wg ⟨rfl, hb⟩
          have HTg := Lib.hid (HD.out.below hb)
          clear hb
          go_wp2_with fail
          refine hK.out _ _ ?_ (fun hHeld => ?_)
          · exact HTg.out.ts.cell
          clear hK K
          (try simp only [Act.put, List.setIfInBounds_toArray, List.set_cons_zero, List.set_cons_succ])
          refine wpAnyH_ready (rs := [4]) (by decide +kernel) (by simp) ?_
          refine AllReadyH.cons (o := ⟨some 47, _, _, _, _, _⟩) rfl (fun K hK => ?_) AllReadyH.nil
          go_simp
          refine (taken_event v A n c (goodE v) HTg.out.ts.rd).mono ?_
          rintro e wt ⟨rfl, hR⟩
          rw [HTe.out] at hR ⊢
          have HTt := Lib.hid (HTg.out.call hR)
          obtain ⟨cs, a1, a2, hcs, hz, h1⟩ := taken_form T (goodE v) v A n c
          have HV := Lib.hid hcs
          have HZ := Lib.hid hz
          rw [hcs]
          clear hcs hz hR
          go_wp2_with fail
          refine hK.out _ _ ?_ (fun hHeld => ?_)
          · exact HTt.out.ts.cell
          clear hK K
          (try simp only [Act.put, List.setIfInBounds_toArray, List.set_cons_zero, List.set_cons_succ])
          refine wpAnyH_take (i := 5) (oi := ⟨some 48, _, _, _, _, _⟩) (v := ?_) rfl (by kernel_rfl) (by kernel_rfl) (by kernel_rfl) (fun _ _ _ h => h) (Or.inl ⟨by rfl, ?_⟩) (by assumption) ?_
          rotate_left
          · (intro u hu; (try dsimp only at hu); go_simp; (try with_reducible rfl))
          (try simp only [Act.put, List.setIfInBounds_toArray, List.set_cons_zero, List.set_cons_succ])
          refine wpAnyH_take (i := 6) (oi := ⟨some 49, _, _, _, _, _⟩) (v := ?_) rfl (by kernel_rfl) (by kernel_rfl) (by kernel_rfl) (fun _ _ _ h => h) (Or.inl ⟨by rfl, ?_⟩) (by assumption) ?_
          rotate_left
          · (intro u hu; (try dsimp only at hu); go_simp; (try with_reducible rfl))
          (try simp only [Act.put, List.setIfInBounds_toArray, List.set_cons_zero, List.set_cons_succ])
          refine wpAnyH_take (i := 7) (oi := ⟨some 50, _, _, _, _, _⟩) (v := ?_) rfl (by kernel_rfl) (by kernel_rfl) (by kernel_rfl) (fun _ _ _ h => h) (Or.inl ⟨by rfl, ?_⟩) (by assumption) ?_
          rotate_left
          · (intro u hu; (try dsimp only at hu); go_simp; (try with_reducible rfl))
          (try simp only [Act.put, List.setIfInBounds_toArray, List.set_cons_zero, List.set_cons_succ])
          refine wpAnyH_ready (rs := [8]) (by decide +kernel) (by simp) ?_
          refine AllReadyH.cons (o := ⟨none, _, _, _, _, _⟩) rfl (fun K hK => ?_) AllReadyH.nil
          rw [if_pos (by rfl)]
          refine oper_store 51 _ _ rfl (w.heap.size) 51 _ cs rfl rfl HTt.out.ts.xb (by rw [HZ.out]; kernel_rfl) (by rw [HZ.out]; rfl) h1 ?_
          have HTr := Lib.hid (HTt.out.ts.row (noU_ev v A n c) cs)
          refine hK.out _ _ ?_ (fun hHeld => ?_)
          · exact HTr.out.cell
          clear hK K
          (try simp only [Act.put])
          refine wpAnyH_take (i := 9) (oi := ⟨some 3, _, _, _, _, _⟩) (v := ?_) rfl (by kernel_rfl) (by kernel_rfl) (by kernel_rfl) (fun _ _ _ h => h) (Or.inl ⟨by rfl, ?_⟩) (by assumption) ?_
          rotate_left
          · (intro u hu; (try dsimp only at hu); go_simp; (try with_reducible rfl))
          (try simp only [Act.put, List.setIfInBounds_toArray, List.set_cons_zero, List.set_cons_succ])
          refine wpAnyH_take (i := 10) (oi := ⟨some 4, _, _, _, _, _⟩) (v := ?_) rfl (by kernel_rfl) (by kernel_rfl) (by kernel_rfl) (fun _ _ _ h => h) (Or.inl ⟨by rfl, ?_⟩) (by assumption) ?_
          rotate_left
          · (intro u hu; (try dsimp only at hu); go_simp; (try with_reducible rfl))
          (try simp only [Act.put, List.setIfInBounds_toArray, List.set_cons_zero, List.set_cons_succ])
          refine wpAnyH_done (by kernel_rfl) ?_ _
          go_wp2_with fail
          refine bodyPost_ret (res_ctt rfl _ _ (w.heap.size) cs Try.underlying51 (by rw [HZ.out]; kernel_rfl) rfl HTr.out.xb) rfl (HF.out _ _ _ _ _ HTt.out.len HTt.out.cap ?_ HTr.out.bel (by rw [HV.out]; rfl))
          exact steps_own (HTt.out.own.kept (setRow_grown wt w.heap.size cs) (.inr (own_far HTt.out.own HTt.out.ts.xb (by decide))))
        · obtain ⟨c0, c1, c2, c3, c4, c5, c6, c7, c8, c9, c10, c11⟩ := evc (v := v) HD.out.ts.xb
          go_simp
          refine hK.out _ _ ?_ (fun hHeld => ?_)
          · exact HD.out.ts.cell
          clear hK K c0 c1 c2 c3 c4 c5 c6 c7 c8 c9 c10 c11
          (try simp only [Act.put, List.setIfInBounds_toArray, List.set_cons_zero, List.set_cons_succ])
          refine wpAnyH_ready (rs := [1, 3]) (by decide +kernel) (by simp) ?_
          refine AllReadyH.cons (o := ⟨some 44, _, _, _, _, _⟩) rfl (fun K hK => ?_) (AllReadyH.cons (o := ⟨some 46, _, _, _, _, _⟩) rfl (fun K hK => ?_) AllReadyH.nil)
          · obtain ⟨c0, c1, c2, c3, c4, c5, c6, c7, c8, c9, c10, c11⟩ := evc (v := v) HD.out.ts.xb
            go_simp
            refine hK.out _ _ ?_ (fun hHeld => ?_)
            · exact HD.out.ts.cell
            clear hK K c0 c1 c2 c3 c4 c5 c6 c7 c8 c9 c10 c11
            (try simp only [Act.put, List.setIfInBounds_toArray, List.set_cons_zero, List.set_cons_succ])
            refine wpAnyH_ready (rs := [3]) (by decide +kernel) (by simp) ?_
            refine AllReadyH.cons (o := ⟨some 46, _, _, _, _, _⟩) rfl (fun K hK => ?_) AllReadyH.nil
            go_simp
            refine (good_ev v A n c _ (HD.out.in_ HMo.out.1 HMo.out.2)).mono ?_
            rintro e wg ⟨rfl, hb⟩
            have HTg := Lib.hid (HD.out.below hb)
            clear hb
            go_wp2_with fail
            refine hK.out _ _ ?_ (fun hHeld => ?_)
            · exact HTg.out.ts.cell
            clear hK K
            (try simp only [Act.put, List.setIfInBounds_toArray, List.set_cons_zero, List.set_cons_succ])
            refine wpAnyH_ready (rs := [4]) (by decide +kernel) (by simp) ?_
            refine AllReadyH.cons (o := ⟨some 47, _, _, _, _, _⟩) rfl (fun K hK => ?_) AllReadyH.nil
            go_simp
            refine (taken_event v A n c (goodE v) HTg.out.ts.rd).mono ?_
            rintro e wt ⟨rfl, hR⟩
            rw [HTe.out] at hR ⊢
            have HTt := Lib.hid (HTg.out.call hR)
            obtain ⟨cs, a1, a2, hcs, hz, h1⟩ := taken_form T (goodE v) v A n c
            have HV := Lib.hid hcs
            have HZ := Lib.hid hz
            rw [hcs]
            clear hcs hz hR
            go_wp2_with fail
            refine hK.out _ _ ?_ (fun hHeld => ?_)
            · exact HTt.out.ts.cell
            clear hK K
            (try simp only [Act.put, List.setIfInBounds_toArray, List.set_cons_zero, List.set_cons_succ])
            refine wpAnyH_take (i := 5) (oi := ⟨some 48, _, _, _, _, _⟩) (v := ?_) rfl (by kernel_rfl) (by kernel_rfl) (by kernel_rfl) (fun _ _ _ h => h) (Or.inl ⟨by rfl, ?_⟩) (by assumption) ?_
            rotate_left
            · (intro u hu; (try dsimp only at hu); go_simp; (try with_reducible rfl))
            (try simp only [Act.put, List.setIfInBounds_toArray, List.set_cons_zero, List.set_cons_succ])
            refine wpAnyH_take (i := 6) (oi := ⟨some 49, _, _, _, _, _⟩) (v := ?_) rfl (by kernel_rfl) (by kernel_rfl) (by kernel_rfl) (fun _ _ _ h => h) (Or.inl ⟨by rfl, ?_⟩) (by assumption) ?_
            rotate_left
            · (intro u hu; (try dsimp only at hu); go_simp; (try with_reducible rfl))
            (try simp only [Act.put, List.setIfInBounds_toArray, List.set_cons_zero, List.set_cons_succ])
            refine wpAnyH_take (i := 7) (oi := ⟨some 50, _, _, _, _, _⟩) (v := ?_) rfl (by kernel_rfl) (by kernel_rfl) (by kernel_rfl) (fun _ _ _ h => h) (Or.inl ⟨by rfl, ?_⟩) (by assumption) ?_
            rotate_left
            · (intro u hu; (try dsimp only at hu); go_simp; (try with_reducible rfl))
            (try simp only [Act.put, List.setIfInBounds_toArray, List.set_cons_zero, List.set_cons_succ])
            refine wpAnyH_ready (rs := [8]) (by decide +kernel) (by simp) ?_
            refine AllReadyH.cons (o := ⟨none, _, _, _, _, _⟩) rfl (fun K hK => ?_) AllReadyH.nil
            rw [if_pos (by rfl)]
            refine oper_store 51 _ _ rfl (w.heap.size) 51 _ cs rfl rfl HTt.out.ts.xb (by rw [HZ.out]; kernel_rfl) (by rw [HZ.out]; rfl) h1 ?_
            have HTr := Lib.hid (HTt.out.ts.row (noU_ev v A n c) cs)
            refine hK.out _ _ ?_ (fun hHeld => ?_)
            · exact HTr.out.cell
            clear hK K
            (try simp only [Act.put])
            refine wpAnyH_take (i := 9) (oi := ⟨some 3, _, _, _, _, _⟩) (v := ?_) rfl (by kernel_rfl) (by kernel_rfl) (by kernel_rfl) (fun _ _ _ h => h) (Or.inl ⟨by rfl, ?_⟩) (by assumption) ?_
            rotate_left
            · (intro u hu; (try dsimp only at hu); go_simp; (try with_reducible rfl))
            (try simp only [Act.put, List.setIfInBounds_toArray, List.set_cons_zero, List.set_cons_succ])
            refine wpAnyH_take (i := 10) (oi := ⟨some 4, _, _, _, _, _⟩) (v := ?_) rfl (by kernel_rfl) (by kernel_rfl) (by kernel_rfl) (fun _ _ _ h => h) (Or.inl ⟨by rfl, ?_⟩) (by assumption) ?_
            rotate_left
            · (intro u hu; (try dsimp only at hu); go_simp; (try with_reducible rfl))
            (try simp only [Act.put, List.setIfInBounds_toArray, List.set_cons_zero, List.set_cons_succ])
            refine wpAnyH_done (by kernel_rfl) ?_ _
            go_wp2_with fail
            refine bodyPost_ret (res_ctt rfl _ _ (w.heap.size) cs Try.underlying51 (by rw [HZ.out]; kernel_rfl) rfl HTr.out.xb) rfl (HF.out _ _ _ _ _ HTt.out.len HTt.out.cap ?_ HTr.out.bel (by rw [HV.out]; rfl))
            exact steps_own (HTt.out.own.kept (setRow_grown wt w.heap.size cs) (.inr (own_far HTt.out.own HTt.out.ts.xb (by decide))))
          · go_simp
            refine (good_ev v A n c _ (HD.out.in_ HMo.out.1 HMo.out.2)).mono ?_
            rintro e wg ⟨rfl, hb⟩
            have HTg := Lib.hid (HD.out.below hb)
            clear hb
            go_wp2_with fail
            refine hK.out _ _ ?_ (fun hHeld => ?_)
            · exact HTg.out.ts.cell
            clear hK K
            (try simp only [Act.put, List.setIfInBounds_toArray, List.set_cons_zero, List.set_cons_succ])
            refine wpAnyH_ready (rs := [1]) (by decide +kernel) (by simp) ?_
            refine AllReadyH.cons (o := ⟨some 44, _, _, _, _, _⟩) rfl (fun K hK => ?_) AllReadyH.nil
            obtain ⟨c0, c1, c2, c3, c4, c5, c6, c7, c8, c9, c10, c11⟩ := evc (v := v) HTg.out.ts.xb
            go_simp
            refine hK.out _ _ ?_ (fun hHeld => ?_)
            · exact HTg.out.ts.cell
            clear hK K c0 c1 c2 c3 c4 c5 c6 c7 c8 c9 c10 c11
            (try simp only [Act.put, List.setIfInBounds_toArray, List.set_cons_zero, List.set_cons_succ])
            refine wpAnyH_ready (rs := [4]) (by decide +kernel) (by simp) ?_
            refine AllReadyH.cons (o := ⟨some 47, _, _, _, _, _⟩) rfl (fun K hK => ?_) AllReadyH.nil
            go_simp
            refine (taken_event v A n c (goodE v) HTg.out.ts.rd).mono ?_
            rintro e wt ⟨rfl, hR⟩
            rw [HTe.out] at hR ⊢
            have HTt := Lib.hid (HTg.out.call hR)
            obtain ⟨cs, a1, a2, hcs, hz, h1⟩ := taken_form T (goodE v) v A n c
            have HV := Lib.hid hcs
            have HZ := Lib.hid hz
            rw [hcs]
            clear hcs hz hR
            go_wp2_with fail
            refine hK.out _ _ ?_ (fun hHeld => ?_)
            · exact HTt.out.ts.cell
            clear hK K
            (try simp only [Act.put, List.setIfInBounds_toArray, List.set_cons_zero, List.set_cons_succ])
            refine wpAnyH_take (i := 5) (oi := ⟨some 48, _, _, _, _, _⟩) (v := ?_) rfl (by kernel_rfl) (by kernel_rfl) (by kernel_rfl) (fun _ _ _ h => h) (Or.inl ⟨by rfl, ?_⟩) (by assumption) ?_
            rotate_left
            · (intro u hu; (try dsimp only at hu); go_simp; (try with_reducible rfl))
            (try simp only [Act.put, List.setIfInBounds_toArray, List.set_cons_zero, List.set_cons_succ])
            refine wpAnyH_take (i := 6) (oi := ⟨some 49, _, _, _, _, _⟩) (v := ?_) rfl (by kernel_rfl) (by kernel_rfl) (by kernel_rfl) (fun _ _ _ h => h) (Or.inl ⟨by rfl, ?_⟩) (by assumption) ?_
            rotate_left
            · (intro u hu; (try dsimp only at hu); go_simp; (try with_reducible rfl))
            (try simp only [Act.put, List.setIfInBounds_toArray, List.set_cons_zero, List.set_cons_succ])
            refine wpAnyH_take (i := 7) (oi := ⟨some 50, _, _, _, _, _⟩) (v := ?_) rfl (by kernel_rfl) (by kernel_rfl) (by kernel_rfl) (fun _ _ _ h => h) (Or.inl ⟨by rfl, ?_⟩) (by assumption) ?_
            rotate_left
            · (intro u hu; (try dsimp only at hu); go_simp; (try with_reducible rfl))
            (try simp only [Act.put, List.setIfInBounds_toArray, List.set_cons_zero, List.set_cons_succ])
            refine wpAnyH_ready (rs := [8]) (by decide +kernel) (by simp) ?_
            refine AllReadyH.cons (o := ⟨none, _, _, _, _, _⟩) rfl (fun K hK => ?_) AllReadyH.nil
            rw [if_pos (by rfl)]
            refine oper_store 51 _ _ rfl (w.heap.size) 51 _ cs rfl rfl HTt.out.ts.xb (by rw [HZ.out]; kernel_rfl) (by rw [HZ.out]; rfl) h1 ?_
            have HTr := Lib.hid (HTt.out.ts.row (noU_ev v A n c) cs)
            refine hK.out _ _ ?_ (fun hHeld => ?_)
            · exact HTr.out.cell
            clear hK K
            (try simp only [Act.put])
            refine wpAnyH_take (i := 9) (oi := ⟨some 3, _, _, _, _, _⟩) (v := ?_) rfl (by kernel_rfl) (by kernel_rfl) (by kernel_rfl) (fun _ _ _ h => h) (Or.inl ⟨by rfl, ?_⟩) (by assumption) ?_
            rotate_left
            · (intro u hu; (try dsimp only at hu); go_simp; (try with_reducible rfl))
            (try simp only [Act.put, List.setIfInBounds_toArray, List.set_cons_zero, List.set_cons_succ])
            refine wpAnyH_take (i := 10) (oi := ⟨some 4, _, _, _, _, _⟩) (v := ?_) rfl (by kernel_rfl) (by kernel_rfl) (by kernel_rfl) (fun _ _ _ h => h) (Or.inl ⟨by rfl, ?_⟩) (by assumption) ?_
            rotate_left
            · (intro u hu; (try dsimp only at hu); go_simp; (try with_reducible rfl))
            (try simp only [Act.put, List.setIfInBounds_toArray, List.set_cons_zero, List.set_cons_succ])
            refine wpAnyH_done (by kernel_rfl) ?_ _
            go_wp2_with fail
            refine bodyPost_ret (res_ctt rfl _ _ (w.heap.size) cs Try.underlying51 (by rw [HZ.out]; kernel_rfl) rfl HTr.out.xb) rfl (HF.out _ _ _ _ _ HTt.out.len HTt.out.cap ?_ HTr.out.bel (by rw [HV.out]; rfl))
            exact steps_own (HTt.out.own.kept (setRow_grown wt w.heap.size cs) (.inr (own_far HTt.out.own HTt.out.ts.xb (by decide))))
    have hkn : q1 ≠ 0 ∧ q1 ≠ 1 ∧ q1 ≠ 3 := ⟨hkq, hk1, hk3⟩
    clear hkq hk1 hk3
    have hkq := hkn
    clear hkn
    as_aux_lemma =>
      obtain ⟨s4, hs4⟩ : ∃ d, d = s3 := ⟨_, rfl⟩
      obtain ⟨v, hv⟩ : ∃ v : Ev, v = ⟨q1, q2, q3, tx0, rp0, tx0, 0, []⟩ := ⟨_, rfl⟩
      obtain ⟨T, hT⟩ : ∃ T, T = endS l s4 := ⟨_, rfl⟩
      have hev : evV l = v := by
        rw [hv]
        unfold evV
        rw [HS3.out, HN2.out, HN3.out, HK1.out, if_neg hkq.2.1, if_neg hkq.2.2, if_neg hkq.1, if_neg hkq.1, if_neg hkq.1]
      have het : evE l = T := by
        rw [hT, hs4]
        unfold evE evS
        rw [HS3.out, HK1.out, if_neg hkq.1, if_neg hkq.2.1, if_neg hkq.2.2]
      have HF : Hid (∀ (A : Option Addr) (n c : Nat) (e : Ending) (w' : World), n = v.ss.length → n ≤ c → Df.Steps w' w'.heap.size A v.ss → Below w.heap.size w w' → e = .returned (takenV T (goodE v) (.agg #[.int .i64 0, .int .i64 0, .int .i64 0, .string ⟨#[]⟩, .int .i64 0, .int .i64 0, .bool false, .int .i64 0, .bool false, .string ⟨#[]⟩, .int .i64 0, .slice none 0 0]) (.agg #[.int .i64 v.k, .int .i64 v.now, .int .i64 v.sg, .string v.nm, .int .i64 v.r.sg, .int .i64 v.r.sp, .bool v.r.un, .int .i64 v.r.tr, .bool v.r.good, .string v.dn, .int .i64 v.dl, .slice A n c])) → EvTo w (evA l) e w') := Lib.hid fun A n c e w' h1 h2 h3 h4 h5 => evTo_of (by rw [HK1.out]; omega) het hev h1 h2 h3 h4 h5
      have HMo : Hid (Mod v.dn v.ss ∧ v.nm.size ≤ 1000000) := Lib.hid (by
        have hf := fits_taken l
        rw [hev] at hf
        have hl : v.ss.length ≤ 32 := by
          rw [← hev]
          unfold evV
          dsimp only
          split
          · unfold defSs; rw [stepsQ_len]; exact cntQ_le _
          · exact Nat.zero_le _
        exact ⟨⟨by have := hf.2.1; omega, by omega, fun x hx => by have := hf.2.2 x hx; omega⟩, by have := hf.1; omega⟩)
      have HVv := Lib.hid hv
      have HTe : Hid (endS l s4 = T) := Lib.hid hT.symm
      have HS4 := Lib.hid hs4
      clear hv hT hev het hs4
      have d0 := HT6.out.xb.cell 0
      simp only [List.getElem?_toArray, List.getElem?_cons_zero] at d0
      have cc := HT6.out.cell
      have k0 : (((q1 : Nat) : Int) == 0) = false := beq_false_of_ne (by omega)
      have k1 : (((q1 : Nat) : Int) == 1) = false := beq_false_of_ne (by omega)
      have k3 : (((q1 : Nat) : Int) == 3) = false := beq_false_of_ne (by omega)
      have HKq := Lib.hid hkq
      clear hkq
      have HT : Hid (Te w v6 w1.heap.size g w.heap.size l s4 v none 0 0) := Lib.hid (by rw [HVv.out, HS4.out]; exact ⟨HT6.out, World.ownsRow_nil _ _ _ _⟩)
      have c0 := HT.out.ts.cell
      go_wp2_with fail
      clear d0 cc k0 k1 k3
      obtain ⟨A, hA⟩ : ∃ A : Option Addr, A = none := ⟨_, rfl⟩
      obtain ⟨n, hn⟩ : ∃ n : Nat, n = 0 := ⟨_, rfl⟩
      obtain ⟨c, hc⟩ : ∃ c : Nat, c = 0 := ⟨_, rfl⟩
      have HT : Hid (Te w v6 w1.heap.size g w.heap.size l s4 v A n c) := Lib.hid (by rw [hA, hn, hc]; exact HT.out)
      clear hA hn hc
      clear c0
      refine wp_region_held_drew (S := fun v => v.cell? ⟨w1.heap.size, 0, none⟩ = some (.pointer (some ⟨g, 0, none⟩))) (by kernel_rfl) (HT.out.ts.drew.cell) (fun hHeld => ?_)
      have HD := Lib.hid HT.out.drew
      clear HT
      refine wpAnyH_take (i := 0) (oi := ⟨some 43, _, _, _, _, _⟩) (v := ?_) rfl (by kernel_rfl) (by kernel_rfl) (by kernel_rfl) (fun _ _ _ h => h) (Or.inl ⟨by rfl, ?_⟩) (by assumption) ?_
      rotate_left
      · (intro u hu; (try dsimp only at hu); go_simp; (try with_reducible rfl))
      (try simp only [Act.put, List.setIfInBounds_toArray, List.set_cons_zero, List.set_cons_succ])
      refine wpAnyH_ready (rs := [1, 2]) (by decide +kernel) (by simp) ?_
      refine AllReadyH.cons (o := ⟨some 44, _, _, _, _, _⟩) rfl (fun K hK => ?_) (AllReadyH.cons (o := ⟨some 45, _, _, _, _, _⟩) rfl (fun K hK => ?_) AllReadyH.nil)
      · obtain ⟨c0, c1, c2, c3, c4, c5, c6, c7, c8, c9, c10, c11⟩ := evc (v := v) HD.out.ts.xb
        go_simp
        refine hK.out _ _ ?_ (fun hHeld => ?_)
        · exact HD.out.ts.cell
        clear hK K c0 c1 c2 c3 c4 c5 c6 c7 c8 c9 c10 c11
        (try simp only [Act.put, List.setIfInBounds_toArray, List.set_cons_zero, List.set_cons_succ])
        refine wpAnyH_ready (rs := [2]) (by decide +kernel) (by simp) ?_
        refine AllReadyH.cons (o := ⟨some 45, _, _, _, _, _⟩) rfl (fun K hK => ?_) AllReadyH.nil
        obtain ⟨c0, c1, c2, c3, c4, c5, c6, c7, c8, c9, c10, c11⟩ := evc (v := v) HD.out.ts.xb
        go_simp
        refine hK.out _ _ ?_ (fun hHeld => ?_)
        · exact HD.out.ts.cell
        clear hK K c0 c1 c2 c3 c4 c5 c6 c7 c8 c9 c10 c11
        (try simp only [Act.put, List.setIfInBounds_toArray, List.set_cons_zero, List.set_cons_succ])
        refine wpAnyH_ready (rs := [3]) (by decide +kernel) (by simp) ?_
        refine AllReadyH.cons (o := ⟨some 46, _, _, _, _, _⟩) rfl (fun K hK => ?_) AllReadyH.nil
        go_simp
        refine (good_ev v A n c _ (HD.out.in_ HMo.out.1 HMo.out.2)).mono ?_
        rintro e wg ⟨rfl, hb⟩
        have HTg := Lib.hid (HD.out.below hb)
        clear hb
        go_wp2_with fail
        refine hK.out _ _ ?_ (fun hHeld => ?_)
        · exact HTg.out.ts.cell
        clear hK K
        (try simp only [Act.put, List.setIfInBounds_toArray, List.set_cons_zero, List.set_cons_succ])
        refine wpAnyH_ready (rs := [4]) (by decide +kernel) (by simp) ?_
        refine AllReadyH.cons (o := ⟨some 47, _, _, _, _, _⟩) rfl (fun K hK => ?_) AllReadyH.nil
        go_simp
        refine (taken_event v A n c (goodE v) HTg.out.ts.rd).mono ?_
        rintro e wt ⟨rfl, hR⟩
        rw [HTe.out] at hR ⊢
        have HTt := Lib.hid (HTg.out.call hR)
        obtain ⟨cs, a1, a2, hcs, hz, h1⟩ := taken_form T (goodE v) v A n c
        have HV := Lib.hid hcs
        have HZ := Lib.hid hz
        rw [hcs]
        clear hcs hz hR
        go_wp2_with fail
        refine hK.out _ _ ?_ (fun hHeld => ?_)
        · exact HTt.out.ts.cell
        clear hK K
        (try simp only [Act.put, List.setIfInBounds_toArray, List.set_cons_zero, List.set_cons_succ])
        refine wpAnyH_take (i := 5) (oi := ⟨some 48, _, _, _, _, _⟩) (v := ?_) rfl (by kernel_rfl) (by kernel_rfl) (by kernel_rfl) (fun _ _ _ h => h) (Or.inl ⟨by rfl, ?_⟩) (by assumption) ?_
        rotate_left
        · (intro u hu; (try dsimp only at hu); go_simp; (try with_reducible rfl))
        (try simp only [Act.put, List.setIfInBounds_toArray, List.set_cons_zero, List.set_cons_succ])
        refine wpAnyH_take (i := 6) (oi := ⟨some 49, _, _, _, _, _⟩) (v := ?_) rfl (by kernel_rfl) (by kernel_rfl) (by kernel_rfl) (fun _ _ _ h => h) (Or.inl ⟨by rfl, ?_⟩) (by assumption) ?_
        rotate_left
        · (intro u hu; (try dsimp only at hu); go_simp; (try with_reducible rfl))
        (try simp only [Act.put, List.setIfInBounds_toArray, List.set_cons_zero, List.set_cons_succ])
        refine wpAnyH_take (i := 7) (oi := ⟨some 50, _, _, _, _, _⟩) (v := ?_) rfl (by kernel_rfl) (by kernel_rfl) (by kernel_rfl) (fun _ _ _ h => h) (Or.inl ⟨by rfl, ?_⟩) (by assumption) ?_
        rotate_left
        · (intro u hu; (try dsimp only at hu); go_simp; (try with_reducible rfl))
        (try simp only [Act.put, List.setIfInBounds_toArray, List.set_cons_zero, List.set_cons_succ])
        refine wpAnyH_ready (rs := [8]) (by decide +kernel) (by simp) ?_
        refine AllReadyH.cons (o := ⟨none, _, _, _, _, _⟩) rfl (fun K hK => ?_) AllReadyH.nil
        rw [if_pos (by rfl)]
        refine oper_store 51 _ _ rfl (w.heap.size) 51 _ cs rfl rfl HTt.out.ts.xb (by rw [HZ.out]; kernel_rfl) (by rw [HZ.out]; rfl) h1 ?_
        have HTr := Lib.hid (HTt.out.ts.row (noU_ev v A n c) cs)
        refine hK.out _ _ ?_ (fun hHeld => ?_)
        · exact HTr.out.cell
        clear hK K
        (try simp only [Act.put])
        refine wpAnyH_take (i := 9) (oi := ⟨some 3, _, _, _, _, _⟩) (v := ?_) rfl (by kernel_rfl) (by kernel_rfl) (by kernel_rfl) (fun _ _ _ h => h) (Or.inl ⟨by rfl, ?_⟩) (by assumption) ?_
        rotate_left
        · (intro u hu; (try dsimp only at hu); go_simp; (try with_reducible rfl))
        (try simp only [Act.put, List.setIfInBounds_toArray, List.set_cons_zero, List.set_cons_succ])
        refine wpAnyH_take (i := 10) (oi := ⟨some 4, _, _, _, _, _⟩) (v := ?_) rfl (by kernel_rfl) (by kernel_rfl) (by kernel_rfl) (fun _ _ _ h => h) (Or.inl ⟨by rfl, ?_⟩) (by assumption) ?_
        rotate_left
        · (intro u hu; (try dsimp only at hu); go_simp; (try with_reducible rfl))
        (try simp only [Act.put, List.setIfInBounds_toArray, List.set_cons_zero, List.set_cons_succ])
        refine wpAnyH_done (by kernel_rfl) ?_ _
        go_wp2_with fail
        refine bodyPost_ret (res_ctt rfl _ _ (w.heap.size) cs Try.underlying51 (by rw [HZ.out]; kernel_rfl) rfl HTr.out.xb) rfl (HF.out _ _ _ _ _ HTt.out.len HTt.out.cap ?_ HTr.out.bel (by rw [HV.out]; rfl))
        exact steps_own (HTt.out.own.kept (setRow_grown wt w.heap.size cs) (.inr (own_far HTt.out.own HTt.out.ts.xb (by decide))))
      · obtain ⟨c0, c1, c2, c3, c4, c5, c6, c7, c8, c9, c10, c11⟩ := evc (v := v) HD.out.ts.xb
        go_simp
        refine hK.out _ _ ?_ (fun hHeld => ?_)
        · exact HD.out.ts.cell
        clear hK K c0 c1 c2 c3 c4 c5 c6 c7 c8 c9 c10 c11
        (try simp only [Act.put, List.setIfInBounds_toArray, List.set_cons_zero, List.set_cons_succ])
        refine wpAnyH_ready (rs := [1, 3]) (by decide +kernel) (by simp) ?_
        refine AllReadyH.cons (o := ⟨some 44, _, _, _, _, _⟩) rfl (fun K hK => ?_) (AllReadyH.cons (o := ⟨some 46, _, _, _, _, _⟩) rfl (fun K hK => ?_) AllReadyH.nil)
        · obtain ⟨c0, c1, c2, c3, c4, c5, c6, c7, c8, c9, c10, c11⟩ := evc (v := v) HD.out.ts.xb
          go_simp
          refine hK.out _ _ ?_ (fun hHeld => ?_)
          · exact HD.out.ts.cell
          clear hK K c0 c1 c2 c3 c4 c5 c6 c7 c8 c9 c10 c11
          (try simp only [Act.put, List.setIfInBounds_toArray, List.set_cons_zero, List.set_cons_succ])
          refine wpAnyH_ready (rs := [3]) (by decide +kernel) (by simp) ?_
          refine AllReadyH.cons (o := ⟨some 46, _, _, _, _, _⟩) rfl (fun K hK => ?_) AllReadyH.nil
          go_simp
          refine (good_ev v A n c _ (HD.out.in_ HMo.out.1 HMo.out.2)).mono ?_
          rintro e wg ⟨rfl, hb⟩
          have HTg := Lib.hid (HD.out.below hb)
          clear hb
          go_wp2_with fail
          refine hK.out _ _ ?_ (fun hHeld => ?_)
          · exact HTg.out.ts.cell
          clear hK K
          (try simp only [Act.put, List.setIfInBounds_toArray, List.set_cons_zero, List.set_cons_succ])
          refine wpAnyH_ready (rs := [4]) (by decide +kernel) (by simp) ?_
          refine AllReadyH.cons (o := ⟨some 47, _, _, _, _, _⟩) rfl (fun K hK => ?_) AllReadyH.nil
          go_simp
          refine (taken_event v A n c (goodE v) HTg.out.ts.rd).mono ?_
          rintro e wt ⟨rfl, hR⟩
          rw [HTe.out] at hR ⊢
          have HTt := Lib.hid (HTg.out.call hR)
          obtain ⟨cs, a1, a2, hcs, hz, h1⟩ := taken_form T (goodE v) v A n c
          have HV := Lib.hid hcs
          have HZ := Lib.hid hz
          rw [hcs]
          clear hcs hz hR
          go_wp2_with fail
          refine hK.out _ _ ?_ (fun hHeld => ?_)
          · exact HTt.out.ts.cell
          clear hK K
          (try simp only [Act.put, List.setIfInBounds_toArray, List.set_cons_zero, List.set_cons_succ])
          refine wpAnyH_take (i := 5) (oi := ⟨some 48, _, _, _, _, _⟩) (v := ?_) rfl (by kernel_rfl) (by kernel_rfl) (by kernel_rfl) (fun _ _ _ h => h) (Or.inl ⟨by rfl, ?_⟩) (by assumption) ?_
          rotate_left
          · (intro u hu; (try dsimp only at hu); go_simp; (try with_reducible rfl))
          (try simp only [Act.put, List.setIfInBounds_toArray, List.set_cons_zero, List.set_cons_succ])
          refine wpAnyH_take (i := 6) (oi := ⟨some 49, _, _, _, _, _⟩) (v := ?_) rfl (by kernel_rfl) (by kernel_rfl) (by kernel_rfl) (fun _ _ _ h => h) (Or.inl ⟨by rfl, ?_⟩) (by assumption) ?_
          rotate_left
          · (intro u hu; (try dsimp only at hu); go_simp; (try with_reducible rfl))
          (try simp only [Act.put, List.setIfInBounds_toArray, List.set_cons_zero, List.set_cons_succ])
          refine wpAnyH_take (i := 7) (oi := ⟨some 50, _, _, _, _, _⟩) (v := ?_) rfl (by kernel_rfl) (by kernel_rfl) (by kernel_rfl) (fun _ _ _ h => h) (Or.inl ⟨by rfl, ?_⟩) (by assumption) ?_
          rotate_left
          · (intro u hu; (try dsimp only at hu); go_simp; (try with_reducible rfl))
          (try simp only [Act.put, List.setIfInBounds_toArray, List.set_cons_zero, List.set_cons_succ])
          refine wpAnyH_ready (rs := [8]) (by decide +kernel) (by simp) ?_
          refine AllReadyH.cons (o := ⟨none, _, _, _, _, _⟩) rfl (fun K hK => ?_) AllReadyH.nil
          rw [if_pos (by rfl)]
          refine oper_store 51 _ _ rfl (w.heap.size) 51 _ cs rfl rfl HTt.out.ts.xb (by rw [HZ.out]; kernel_rfl) (by rw [HZ.out]; rfl) h1 ?_
          have HTr := Lib.hid (HTt.out.ts.row (noU_ev v A n c) cs)
          refine hK.out _ _ ?_ (fun hHeld => ?_)
          · exact HTr.out.cell
          clear hK K
          (try simp only [Act.put])
          refine wpAnyH_take (i := 9) (oi := ⟨some 3, _, _, _, _, _⟩) (v := ?_) rfl (by kernel_rfl) (by kernel_rfl) (by kernel_rfl) (fun _ _ _ h => h) (Or.inl ⟨by rfl, ?_⟩) (by assumption) ?_
          rotate_left
          · (intro u hu; (try dsimp only at hu); go_simp; (try with_reducible rfl))
          (try simp only [Act.put, List.setIfInBounds_toArray, List.set_cons_zero, List.set_cons_succ])
          refine wpAnyH_take (i := 10) (oi := ⟨some 4, _, _, _, _, _⟩) (v := ?_) rfl (by kernel_rfl) (by kernel_rfl) (by kernel_rfl) (fun _ _ _ h => h) (Or.inl ⟨by rfl, ?_⟩) (by assumption) ?_
          rotate_left
          · (intro u hu; (try dsimp only at hu); go_simp; (try with_reducible rfl))
          (try simp only [Act.put, List.setIfInBounds_toArray, List.set_cons_zero, List.set_cons_succ])
          refine wpAnyH_done (by kernel_rfl) ?_ _
          go_wp2_with fail
          refine bodyPost_ret (res_ctt rfl _ _ (w.heap.size) cs Try.underlying51 (by rw [HZ.out]; kernel_rfl) rfl HTr.out.xb) rfl (HF.out _ _ _ _ _ HTt.out.len HTt.out.cap ?_ HTr.out.bel (by rw [HV.out]; rfl))
          exact steps_own (HTt.out.own.kept (setRow_grown wt w.heap.size cs) (.inr (own_far HTt.out.own HTt.out.ts.xb (by decide))))
        · go_simp
          refine (good_ev v A n c _ (HD.out.in_ HMo.out.1 HMo.out.2)).mono ?_
          rintro e wg ⟨rfl, hb⟩
          have HTg := Lib.hid (HD.out.below hb)
          clear hb
          go_wp2_with fail
          refine hK.out _ _ ?_ (fun hHeld => ?_)
          · exact HTg.out.ts.cell
          clear hK K
          (try simp only [Act.put, List.setIfInBounds_toArray, List.set_cons_zero, List.set_cons_succ])
          refine wpAnyH_ready (rs := [1]) (by decide +kernel) (by simp) ?_
          refine AllReadyH.cons (o := ⟨some 44, _, _, _, _, _⟩) rfl (fun K hK => ?_) AllReadyH.nil
          obtain ⟨c0, c1, c2, c3, c4, c5, c6, c7, c8, c9, c10, c11⟩ := evc (v := v) HTg.out.ts.xb
          go_simp
          refine hK.out _ _ ?_ (fun hHeld => ?_)
          · exact HTg.out.ts.cell
          clear hK K c0 c1 c2 c3 c4 c5 c6 c7 c8 c9 c10 c11
          (try simp only [Act.put, List.setIfInBounds_toArray, List.set_cons_zero, List.set_cons_succ])
          refine wpAnyH_ready (rs := [4]) (by decide +kernel) (by simp) ?_
          refine AllReadyH.cons (o := ⟨some 47, _, _, _, _, _⟩) rfl (fun K hK => ?_) AllReadyH.nil
          go_simp
          refine (taken_event v A n c (goodE v) HTg.out.ts.rd).mono ?_
          rintro e wt ⟨rfl, hR⟩
          rw [HTe.out] at hR ⊢
          have HTt := Lib.hid (HTg.out.call hR)
          obtain ⟨cs, a1, a2, hcs, hz, h1⟩ := taken_form T (goodE v) v A n c
          have HV := Lib.hid hcs
          have HZ := Lib.hid hz
          rw [hcs]
          clear hcs hz hR
          go_wp2_with fail
          refine hK.out _ _ ?_ (fun hHeld => ?_)
          · exact HTt.out.ts.cell
          clear hK K
          (try simp only [Act.put, List.setIfInBounds_toArray, List.set_cons_zero, List.set_cons_succ])
          refine wpAnyH_take (i := 5) (oi := ⟨some 48, _, _, _, _, _⟩) (v := ?_) rfl (by kernel_rfl) (by kernel_rfl) (by kernel_rfl) (fun _ _ _ h => h) (Or.inl ⟨by rfl, ?_⟩) (by assumption) ?_
          rotate_left
          · (intro u hu; (try dsimp only at hu); go_simp; (try with_reducible rfl))
          (try simp only [Act.put, List.setIfInBounds_toArray, List.set_cons_zero, List.set_cons_succ])
          refine wpAnyH_take (i := 6) (oi := ⟨some 49, _, _, _, _, _⟩) (v := ?_) rfl (by kernel_rfl) (by kernel_rfl) (by kernel_rfl) (fun _ _ _ h => h) (Or.inl ⟨by rfl, ?_⟩) (by assumption) ?_
          rotate_left
          · (intro u hu; (try dsimp only at hu); go_simp; (try with_reducible rfl))
          (try simp only [Act.put, List.setIfInBounds_toArray, List.set_cons_zero, List.set_cons_succ])
          refine wpAnyH_take (i := 7) (oi := ⟨some 50, _, _, _, _, _⟩) (v := ?_) rfl (by kernel_rfl) (by kernel_rfl) (by kernel_rfl) (fun _ _ _ h => h) (Or.inl ⟨by rfl, ?_⟩) (by assumption) ?_
          rotate_left
          · (intro u hu; (try dsimp only at hu); go_simp; (try with_reducible rfl))
          (try simp only [Act.put, List.setIfInBounds_toArray, List.set_cons_zero, List.set_cons_succ])
          refine wpAnyH_ready (rs := [8]) (by decide +kernel) (by simp) ?_
          refine AllReadyH.cons (o := ⟨none, _, _, _, _, _⟩) rfl (fun K hK => ?_) AllReadyH.nil
          rw [if_pos (by rfl)]
          refine oper_store 51 _ _ rfl (w.heap.size) 51 _ cs rfl rfl HTt.out.ts.xb (by rw [HZ.out]; kernel_rfl) (by rw [HZ.out]; rfl) h1 ?_
          have HTr := Lib.hid (HTt.out.ts.row (noU_ev v A n c) cs)
          refine hK.out _ _ ?_ (fun hHeld => ?_)
          · exact HTr.out.cell
          clear hK K
          (try simp only [Act.put])
          refine wpAnyH_take (i := 9) (oi := ⟨some 3, _, _, _, _, _⟩) (v := ?_) rfl (by kernel_rfl) (by kernel_rfl) (by kernel_rfl) (fun _ _ _ h => h) (Or.inl ⟨by rfl, ?_⟩) (by assumption) ?_
          rotate_left
          · (intro u hu; (try dsimp only at hu); go_simp; (try with_reducible rfl))
          (try simp only [Act.put, List.setIfInBounds_toArray, List.set_cons_zero, List.set_cons_succ])
          refine wpAnyH_take (i := 10) (oi := ⟨some 4, _, _, _, _, _⟩) (v := ?_) rfl (by kernel_rfl) (by kernel_rfl) (by kernel_rfl) (fun _ _ _ h => h) (Or.inl ⟨by rfl, ?_⟩) (by assumption) ?_
          rotate_left
          · (intro u hu; (try dsimp only at hu); go_simp; (try with_reducible rfl))
          (try simp only [Act.put, List.setIfInBounds_toArray, List.set_cons_zero, List.set_cons_succ])
          refine wpAnyH_done (by kernel_rfl) ?_ _
          go_wp2_with fail
          refine bodyPost_ret (res_ctt rfl _ _ (w.heap.size) cs Try.underlying51 (by rw [HZ.out]; kernel_rfl) rfl HTr.out.xb) rfl (HF.out _ _ _ _ _ HTt.out.len HTt.out.cap ?_ HTr.out.bel (by rw [HV.out]; rfl))
          exact steps_own (HTt.out.own.kept (setRow_grown wt w.heap.size cs) (.inr (own_far HTt.out.own HTt.out.ts.xb (by decide))))
end Go.Proofs.Ytihkadbcjeohjaa.Co
