/-
  The statement CodeSagasSaid: for every input the law function CodeSagas returns true (the form of any saga, and the saga of any bytes, or what is wrong, and where, are as the document says; one whose numbers have a form is taken as it was), and the arguments read afterwards as before.
  Conditions: none.
-/
import Derived.Test.YtihkadbcjeohjaaCodAwake
import Derived.Test.YtihkadbcjeohjaaCodTSaga
import Derived.Test.YtihkadbcjeohjaaCodRSaga
import Derived.Test.YtihkadbcjeohjaaCodForm
import Derived.Deep.DeepCutAuto
namespace Go.Proofs.Ytihkadbcjeohjaa.codeSagas
open Go.Proofs.Ytihkadbcjeohjaa.Co
open Go.ChangeShapes Go.WideShapes Go.ChangeAt Go.RowKit Go.Sort
open Go.Proofs.Ytihkadbcjeohjaa.El
open Go.Proofs.Ytihkadbcjeohjaa.Df
open Go.Proofs.Ytihkadbcjeohjaa.Bo (P Made ret_int ret_bool)
open Go.Proofs.Ytihkadbcjeohjaa.Sa (Sg Rp eqG eqG_iff)

/-- the greatest of seven numbers -/
def mx (a b : Int) : Int := if b > a then b else a
theorem mx_le {a b m : Int} (h : mx a b ≤ m) : a ≤ m ∧ b ≤ m := by
  unfold mx at h
  split at h <;> omega
theorem run_mx (P : Program) (w : World) (a b : Int) : (Builtin.max2 (.int .i64 a) (.int .i64 b)).run P w = .ok (.int .i64 (mx a b)) w := by
  unfold mx
  by_cases h : b > a <;> simp [Builtin.max2, h, go_sem]
theorem run_max7 (P : Program) (w : World) (ts : Array TypeId) (t : TypeId) (a b c d e f g : Int) : (Builtin.max_ ts t #[.int .i64 a, .int .i64 b, .int .i64 c, .int .i64 d, .int .i64 e, .int .i64 f, .int .i64 g]).run P w = .ok (.int .i64 (mx (mx (mx (mx (mx (mx a b) c) d) e) f) g)) w := by
  show (List.foldlM Builtin.max2 (.int .i64 a) [.int .i64 b, .int .i64 c, .int .i64 d, .int .i64 e, .int .i64 f, .int .i64 g]).run P w = _
  simp only [List.foldlM_cons, List.foldlM_nil, Sem.run_bind, run_mx, Result.andThen_ok, Sem.run_pure]
theorem wpList_max7 {P : Program} {ops : Array Oper} {rest : List Oper} {o : Oper} {a : Act} {w : World} {Q : Exit → Act → World → Prop} (hgd : o.guard = none) (x0 x1 x2 x3 x4 x5 x6 : Operand) (ts : Array TypeId)
    (ho : o.op = .call { callee := .builtin .max, args := #[x0, x1, x2, x3, x4, x5, x6], argTypes := ts }) (n0 n1 n2 n3 n4 n5 n6 M : Int) (h0 : a.eval x0 = .int .i64 n0) (h1 : a.eval x1 = .int .i64 n1) (h2 : a.eval x2 = .int .i64 n2) (h3 : a.eval x3 = .int .i64 n3) (h4 : a.eval x4 = .int .i64 n4) (h5 : a.eval x5 = .int .i64 n5) (h6 : a.eval x6 = .int .i64 n6)
    (hM : M = mx (mx (mx (mx (mx (mx n0 n1) n2) n3) n4) n5) n6) (h : wpList P ops Q rest (a.put o.dst (.int .i64 M)) w) : wpList P ops Q (o :: rest) a w :=
  wpList_plain hgd fun _ hK => by
    unfold Oper.wp execOp
    simp only [ho, resolve, invoke, builtin, Sem.run_bind, Sem.run_pure, Result.andThen_ok, List.map_toArray, List.map_cons, List.map_nil, h0, h1, h2, h3, h4, h5, h6, run_max7]
    rw [← hM]
    exact hK _ _ h
theorem wpAnyH_mono {P : Program} {md : Region.Mode} {ops : Array Oper} {Q : Exit → Act → World → Prop} {S S' : World → Prop} (hS : ∀ w, S' w → S w) :
    ∀ (fuel : Nat) (listed : Array Bool) (a : Act) (w : World), wpAnyH P md ops Q S' fuel listed a w → wpAnyH P md ops Q S fuel listed a w
  | 0, _, _, _, h => h
  | fuel + 1, _, _, _, h => ⟨h.1, fun i hi => wpOp_mono (fun a' w' h' => ⟨hS _ h'.1, wpAnyH_mono hS fuel _ a' w' h'.2⟩) (h.2 i hi)⟩
/-- what is taken of bytes -/
def sagaA (l : List UInt8) : Sg × Nat × Nat := if (sagaE l).e ≠ 0 then (sg0, (sagaE l).o, (sagaE l).e) else (sagaQ l zeroP, 0, 0)
theorem taken_is (l : List UInt8) : takenV (sagaE l) true (.agg (sgA sg0)) (.agg (sgA (sagaQ l zeroP))) = .tuple #[.agg (sgA (sagaA l).1), .int .i64 ((sagaA l).2.1 : Int), .int .i64 ((sagaA l).2.2 : Int)] := by
  unfold sagaA
  by_cases h : (sagaE l).e = 0
  · rw [takenV_yes h, if_neg (by omega)]
    rfl
  · rw [takenV_err h, if_pos h]
theorem pick_zero {α : Type} {e o : Nat} {x y : α} (h : (if e ≠ 0 then (x, o, e) else (y, 0, 0) : α × Nat × Nat).2.2 = 0) : e = 0 ∧ (if e ≠ 0 then (x, o, e) else (y, 0, 0) : α × Nat × Nat) = (y, 0, 0) := by
  by_cases h1 : e = 0
  · subst h1
    exact ⟨rfl, rfl⟩
  · rw [if_pos h1] at h
    exact absurd h h1
theorem sagaA_zero {l : List UInt8} (h : (sagaA l).2.2 = 0) : l = sagaF (sagaA l).1 := by
  unfold sagaA at h ⊢
  obtain ⟨h1, h2⟩ := pick_zero h
  rw [h2]
  exact saga_whole h1
theorem sagaA_put {s : Sg} (h : s.dn.size ≤ 256) : sagaA (sagaF s) = (clG s, 0, 0) := by
  obtain ⟨h1, h2⟩ := saga_put h
  unfold sagaA
  rw [if_neg (show ¬ (sagaE (sagaF s)).e ≠ 0 from fun h => h h1), h2]
theorem sagaA_dn (l : List UInt8) : (sagaA l).1.dn.size ≤ 256 := by
  unfold sagaA
  split
  · show (0 : Nat) ≤ 256
    decide
  · exact (txtQ_size _).1
theorem take_is (A : Option Addr) (l : List UInt8) (c : Nat) (w : World) (hb : Byt w w.heap.size A l) (hl : l.length ≤ 1099511627776) :
    Calls Try.prog 16 #[.slice A l.length c] w fun e w' => e = .returned (.tuple #[.agg (sgA (sagaA l).1), .int .i64 ((sagaA l).2.1 : Int), .int .i64 ((sagaA l).2.2 : Int)]) ∧ Below w.heap.size w w' := by
  rw [← taken_is]
  exact takeSaga_any A l c w hb hl
theorem read_is (l : List UInt8) (w : World) (hl : l.length ≤ 1099511627776) :
    Calls Try.prog 17 #[.string (sb l)] w fun e w' => e = .returned (.tuple #[.agg (sgA (sagaA l).1), .int .i64 ((sagaA l).2.1 : Int), .int .i64 ((sagaA l).2.2 : Int)]) ∧ Below w.heap.size w w' := by
  have h := readSaga_s (sb l) w (by rw [sb_size]; exact hl)
  rw [show (sb l).data.toList = l from rfl] at h
  rw [← taken_is]
  exact h
set_option maxHeartbeats 16000000 in
set_option maxRecDepth 100000 in
theorem walk (s : Sg) (A1 : Option Addr) (l : List UInt8) (c1 : Nat) (w : World) (hz : s.dn.size ≤ 9223372036854775807) (hm : l.length ≤ 9223372036854775807) (hb : Byt w w.heap.size A1 l) :
    Calls Try.prog 4 #[.agg #[.int .i64 s.id, .string s.dn, .int .i64 s.st, .int .i64 s.ph, .int .i64 s.sp, .int .i64 s.tr, .bool s.out, .int .i64 s.at_, .int .i64 s.sk], .slice A1 l.length c1] w fun e w' => e = .returned (.bool true) ∧ Below w.heap.size w w' := by
  have HW0 := Lib.hid ((Below.refl w.heap.size w).alloc (Nat.le_refl _) (.cells #[.int .i64 s.id, .string s.dn, .int .i64 s.st, .int .i64 s.ph, .int .i64 s.sp, .int .i64 s.tr, .bool s.out, .int .i64 s.at_, .int .i64 s.sk] 40))
  have HB0 := Lib.hid (Box.new w 40 #[.int .i64 s.id, .string s.dn, .int .i64 s.st, .int .i64 s.ph, .int .i64 s.sp, .int .i64 s.tr, .bool s.out, .int .i64 s.at_, .int .i64 s.sk])
  have HY0 := Lib.hid hb
  clear hb
  by_cases h2 : 200 < s.dn.size
  · go_enter Try.func4, Try.ntmps4
    go_wp2_with fail
    generalize w.alloc (.cells #[.int .i64 s.id, .string s.dn, .int .i64 s.st, .int .i64 s.ph, .int .i64 s.sp, .int .i64 s.tr, .bool s.out, .int .i64 s.at_, .int .i64 s.sk] 40) = W0 at *
    refine (awake_any _).mono ?_
    rintro e w1 ⟨rfl, b1⟩
    have c0 := (HB0.out.below b1 HB0.out.lt).cell 1
    simp only [List.getElem?_toArray, List.getElem?_cons_zero, List.getElem?_cons_succ] at c0
    have q2 : decide (200 < (s.dn.size : Int)) = true := decide_eq_true (by omega)
    go_wp2
    go_ret
    exact ⟨rfl, HW0.out.trans (b1.mono HW0.out.size)⟩
  by_cases h4 : 400 < l.length
  · go_enter Try.func4, Try.ntmps4
    go_wp2_with fail
    generalize w.alloc (.cells #[.int .i64 s.id, .string s.dn, .int .i64 s.st, .int .i64 s.ph, .int .i64 s.sp, .int .i64 s.tr, .bool s.out, .int .i64 s.at_, .int .i64 s.sk] 40) = W0 at *
    refine (awake_any _).mono ?_
    rintro e w1 ⟨rfl, b1⟩
    have c0 := (HB0.out.below b1 HB0.out.lt).cell 1
    simp only [List.getElem?_toArray, List.getElem?_cons_zero, List.getElem?_cons_succ] at c0
    have q2 : decide (200 < (s.dn.size : Int)) = false := decide_eq_false (by omega)
    have q4 : decide (400 < (l.length : Int)) = true := decide_eq_true (by omega)
    go_wp2
    go_ret
    exact ⟨rfl, HW0.out.trans (b1.mono HW0.out.size)⟩
  have HZ := Lib.hid (sagaA_zero (l := l))
  have HXd := Lib.hid (sagaA_dn l)
  have HTk := Lib.hid (fun A c w hb => take_is A l c w hb (by omega))
  have HRd := Lib.hid (fun w => read_is l w (by omega))
  obtain ⟨X, hX⟩ : ∃ X, X = (sagaA l).1 := ⟨_, rfl⟩
  obtain ⟨at_, hat⟩ : ∃ a, a = (sagaA l).2.1 := ⟨_, rfl⟩
  obtain ⟨er, her⟩ : ∃ a, a = (sagaA l).2.2 := ⟨_, rfl⟩
  rw [← hX, ← hat, ← her] at HTk HRd
  rw [← hX, ← her] at HZ
  rw [← hX] at HXd
  clear hX hat her
  obtain ⟨t1, ht1⟩ : ∃ t, t = sb (sagaF s) := ⟨_, rfl⟩
  obtain ⟨t2, ht2⟩ : ∃ t, t = sb l := ⟨_, rfl⟩
  have HRF : Hid (∀ W, Calls Try.prog 18 #[.agg #[.int .i64 s.id, .string s.dn, .int .i64 s.st, .int .i64 s.ph, .int .i64 s.sp, .int .i64 s.tr, .bool s.out, .int .i64 s.at_, .int .i64 s.sk]] W fun e w2 => e = .returned (.string t1) ∧ Made W w2) := Lib.hid fun W => by rw [ht1]; exact rsaga_s s W (by omega)
  have HPS := Lib.hid (fun W => putSaga_any s W (by omega))
  have HPX : Hid (∀ W, Calls Try.prog 15 #[.agg #[.int .i64 X.id, .string X.dn, .int .i64 X.st, .int .i64 X.ph, .int .i64 X.sp, .int .i64 X.tr, .bool X.out, .int .i64 X.at_, .int .i64 X.sk]] W (OwnB W (sagaF X))) := Lib.hid fun W => putSaga_any X W (by have := HXd.out; omega)
  have HTs : Hid (∀ A c w, Byt w w.heap.size A (sagaF s) → Calls Try.prog 16 #[.slice A (sagaF s).length c] w fun e w' => e = .returned (.tuple #[.agg (sgA (clG s)), .int .i64 0, .int .i64 0]) ∧ Below w.heap.size w w') := Lib.hid fun A c w hb => by
    have h := take_is A (sagaF s) c w hb (by rw [sagaF_len]; omega)
    rw [sagaA_put (by omega)] at h
    exact h
  have HT1 := Lib.hid ht1
  have HT2' := Lib.hid ht2
  have HT2 : Hid (er = 0 → t2 = ⟨(sagaF X).toArray⟩) := Lib.hid fun h => by rw [ht2]; unfold sb; rw [← HZ.out h]
  have HLs := Lib.hid (sagaF_len s)
  rw [← ht2] at HRd
  unfold sgA at HTk HRd HTs
  have q2 : decide (200 < (s.dn.size : Int)) = false := decide_eq_false (by omega)
  have q4 : decide (400 < (l.length : Int)) = false := decide_eq_false (by omega)
  clear ht1 ht2 HZ
  go_enter Try.func4, Try.ntmps4
  go_wp2_with fail
  generalize w.alloc (.cells #[.int .i64 s.id, .string s.dn, .int .i64 s.st, .int .i64 s.ph, .int .i64 s.sp, .int .i64 s.tr, .bool s.out, .int .i64 s.at_, .int .i64 s.sk] 40) = W0 at *
  refine (awake_any _).mono ?_
  rintro e w1 ⟨rfl, b1⟩
  have HB1 := Lib.hid (HB0.out.below b1 HB0.out.lt)
  have HW1 := Lib.hid (HW0.out.trans (b1.mono HW0.out.size))
  clear b1 HB0
  obtain ⟨d0, d1, d2, d3, d4, d5, d6, d7, d8⟩ := sgc (s := s) HB1.out
  go_wp2_with fail
  refine (HPS.out _).mono ?_
  rintro e w2 ⟨A2, c2, rfl, hc2, hy2, b2⟩
  have HB2 := Lib.hid (HB1.out.below b2 HB1.out.lt)
  have HW2 := Lib.hid (HW1.out.trans (b2.mono HW1.out.size))
  have HY2 := Lib.hid hy2
  obtain ⟨n2, hn2⟩ : ∃ n, n = (sagaF s).length := ⟨_, rfl⟩
  rw [← hn2]
  have HN2 := Lib.hid hn2
  have hn2b : n2 ≤ 1000000 := by rw [hn2, HLs.out]; omega
  clear b2 HB1 hy2 hc2 hn2 d0 d1 d2 d3 d4 d5 d6 d7 d8
  go_wp2_with fail
  refine (HTk.out A1 c1 w2 (HY0.out.below HW2.out |>.more HW2.out.size)).mono ?_
  rintro e w3 ⟨rfl, b3⟩
  have HB3 := Lib.hid (HB2.out.below b3 HB2.out.lt)
  have HW3 := Lib.hid (HW2.out.trans (b3.mono HW2.out.size))
  have HY3 := Lib.hid ((HY2.out.below b3).more b3.size)
  clear b3 HB2 HY2
  have hcb : ∀ u, Below w.heap.size w u → (convert 25 9 (.slice A1 l.length c1)).run Try.prog u = .ok (.string t2) u := fun u H => by
    rw [HT2'.out]
    exact (HY0.out.below H).text 25 5 9 Try.underlying25 Try.underlying5 Try.underlying9 c1
  have HCB := Lib.hid hcb
  have hcb3 := hcb _ (HW3.out.alloc HW3.out.size (.cells #[.int .i64 X.id, .string X.dn, .int .i64 X.st, .int .i64 X.ph, .int .i64 X.sp, .int .i64 X.tr, .bool X.out, .int .i64 X.at_, .int .i64 X.sk] 40))
  clear hcb
  go_wp2_with fail
  refine (HRd.out _).mono ?_
  rintro e w4 ⟨rfl, b4⟩
  have HB4 := Lib.hid ((HB3.out.alloc (.cells #[.int .i64 X.id, .string X.dn, .int .i64 X.st, .int .i64 X.ph, .int .i64 X.sp, .int .i64 X.tr, .bool X.out, .int .i64 X.at_, .int .i64 X.sk] 40)).below b4 (HB3.out.alloc (.cells #[.int .i64 X.id, .string X.dn, .int .i64 X.st, .int .i64 X.ph, .int .i64 X.sp, .int .i64 X.tr, .bool X.out, .int .i64 X.at_, .int .i64 X.sk] 40)).lt)
  have HB6' := Lib.hid ((Box.new w3 40 #[.int .i64 X.id, .string X.dn, .int .i64 X.st, .int .i64 X.ph, .int .i64 X.sp, .int .i64 X.tr, .bool X.out, .int .i64 X.at_, .int .i64 X.sk]).below b4 (Box.new w3 40 #[.int .i64 X.id, .string X.dn, .int .i64 X.st, .int .i64 X.ph, .int .i64 X.sp, .int .i64 X.tr, .bool X.out, .int .i64 X.at_, .int .i64 X.sk]).lt)
  have HW4 := Lib.hid ((HW3.out.alloc HW3.out.size (.cells #[.int .i64 X.id, .string X.dn, .int .i64 X.st, .int .i64 X.ph, .int .i64 X.sp, .int .i64 X.tr, .bool X.out, .int .i64 X.at_, .int .i64 X.sk] 40)).trans (b4.mono (by have := HW3.out.size; simp; omega)))
  have HY4 := Lib.hid (((HY3.out.below ((Below.refl _ w3).alloc (Nat.le_refl _) (.cells #[.int .i64 X.id, .string X.dn, .int .i64 X.st, .int .i64 X.ph, .int .i64 X.sp, .int .i64 X.tr, .bool X.out, .int .i64 X.at_, .int .i64 X.sk] 40))).more (by simp)).below b4 |>.more b4.size)
  clear b4 HB3 HY3 hcb3
  go_upto_region 8 with fail
  have HB2 := Lib.hid (HB4.out.alloc (.cells #[.int .i64 X.id, .string X.dn, .int .i64 X.st, .int .i64 X.ph, .int .i64 X.sp, .int .i64 X.tr, .bool X.out, .int .i64 X.at_, .int .i64 X.sk] 40))
  have HB6 := Lib.hid (HB6'.out.alloc (.cells #[.int .i64 X.id, .string X.dn, .int .i64 X.st, .int .i64 X.ph, .int .i64 X.sp, .int .i64 X.tr, .bool X.out, .int .i64 X.at_, .int .i64 X.sk] 40))
  have HB9 := Lib.hid (Box.new w4 40 #[.int .i64 X.id, .string X.dn, .int .i64 X.st, .int .i64 X.ph, .int .i64 X.sp, .int .i64 X.tr, .bool X.out, .int .i64 X.at_, .int .i64 X.sk])
  have HW5 := Lib.hid (HW4.out.alloc HW4.out.size (.cells #[.int .i64 X.id, .string X.dn, .int .i64 X.st, .int .i64 X.ph, .int .i64 X.sp, .int .i64 X.tr, .bool X.out, .int .i64 X.at_, .int .i64 X.sk] 40))
  have HY5 := Lib.hid ((HY4.out.below ((Below.refl _ w4).alloc (Nat.le_refl _) (.cells #[.int .i64 X.id, .string X.dn, .int .i64 X.st, .int .i64 X.ph, .int .i64 X.sp, .int .i64 X.tr, .bool X.out, .int .i64 X.at_, .int .i64 X.sk] 40))).more (by simp : w4.heap.size ≤ (w4.alloc (.cells #[.int .i64 X.id, .string X.dn, .int .i64 X.st, .int .i64 X.ph, .int .i64 X.sp, .int .i64 X.tr, .bool X.out, .int .i64 X.at_, .int .i64 X.sk] 40)).heap.size))
  clear HB4 HB6' HW4 HY4 HW1 HW2 HW3
  generalize w4.alloc (.cells #[.int .i64 X.id, .string X.dn, .int .i64 X.st, .int .i64 X.ph, .int .i64 X.sp, .int .i64 X.tr, .bool X.out, .int .i64 X.at_, .int .i64 X.sk] 40) = V at *
  have HV1 : Hid (∀ u, Below V.heap.size V u → (convert 25 9 (.slice A2 n2 c2)).run Try.prog u = .ok (.string t1) u) := Lib.hid fun u H => by
    rw [HN2.out, HT1.out]
    exact (HY5.out.below H).text 25 5 9 Try.underlying25 Try.underlying5 Try.underlying9 c2
  have HV2 : Hid (∀ u, Below V.heap.size V u → (convert 25 9 (.slice A1 l.length c1)).run Try.prog u = .ok (.string t2) u) := Lib.hid fun u H => HCB.out u (HW5.out.trans (H.mono HW5.out.size))
  go_cut [72] from 41 to 71 (fun v wx => v = .bool false ∧ Hid (Below V.heap.size V wx))
  case first =>
    by_cases he : er = 0
    · as_aux_lemma =>
      have HT2 := Lib.hid (HT2.out he)
      have HOE : Hid (((er : Int) == 0) = true) := Lib.hid (by simp [he])
      have HE0 := Lib.hid he
      clear he
      have a0 : ∀ u, Below V.heap.size V u → u.cell? ⟨w.heap.size, 0, none⟩ = some (.int .i64 s.id) := fun u H => (H.cell (p := ⟨w.heap.size, 0, none⟩) HB2.out.lt).trans (HB2.out.cell 0)
      have a1 : ∀ u, Below V.heap.size V u → u.cell? ⟨w.heap.size, 1, none⟩ = some (.string s.dn) := fun u H => (H.cell (p := ⟨w.heap.size, 1, none⟩) HB2.out.lt).trans (HB2.out.cell 1)
      have a2 : ∀ u, Below V.heap.size V u → u.cell? ⟨w.heap.size, 2, none⟩ = some (.int .i64 s.st) := fun u H => (H.cell (p := ⟨w.heap.size, 2, none⟩) HB2.out.lt).trans (HB2.out.cell 2)
      have a3 : ∀ u, Below V.heap.size V u → u.cell? ⟨w.heap.size, 3, none⟩ = some (.int .i64 s.ph) := fun u H => (H.cell (p := ⟨w.heap.size, 3, none⟩) HB2.out.lt).trans (HB2.out.cell 3)
      have a4 : ∀ u, Below V.heap.size V u → u.cell? ⟨w.heap.size, 4, none⟩ = some (.int .i64 s.sp) := fun u H => (H.cell (p := ⟨w.heap.size, 4, none⟩) HB2.out.lt).trans (HB2.out.cell 4)
      have a5 : ∀ u, Below V.heap.size V u → u.cell? ⟨w.heap.size, 5, none⟩ = some (.int .i64 s.tr) := fun u H => (H.cell (p := ⟨w.heap.size, 5, none⟩) HB2.out.lt).trans (HB2.out.cell 5)
      have a6 : ∀ u, Below V.heap.size V u → u.cell? ⟨w.heap.size, 6, none⟩ = some (.bool s.out) := fun u H => (H.cell (p := ⟨w.heap.size, 6, none⟩) HB2.out.lt).trans (HB2.out.cell 6)
      have a7 : ∀ u, Below V.heap.size V u → u.cell? ⟨w.heap.size, 7, none⟩ = some (.int .i64 s.at_) := fun u H => (H.cell (p := ⟨w.heap.size, 7, none⟩) HB2.out.lt).trans (HB2.out.cell 7)
      have a8 : ∀ u, Below V.heap.size V u → u.cell? ⟨w.heap.size, 8, none⟩ = some (.int .i64 s.sk) := fun u H => (H.cell (p := ⟨w.heap.size, 8, none⟩) HB2.out.lt).trans (HB2.out.cell 8)
      have x0 : ∀ u, Below V.heap.size V u → u.cell? ⟨w3.heap.size, 0, none⟩ = some (.int .i64 X.id) := fun u H => (H.cell (p := ⟨w3.heap.size, 0, none⟩) HB6.out.lt).trans (HB6.out.cell 0)
      have x1 : ∀ u, Below V.heap.size V u → u.cell? ⟨w3.heap.size, 1, none⟩ = some (.string X.dn) := fun u H => (H.cell (p := ⟨w3.heap.size, 1, none⟩) HB6.out.lt).trans (HB6.out.cell 1)
      have x2 : ∀ u, Below V.heap.size V u → u.cell? ⟨w3.heap.size, 2, none⟩ = some (.int .i64 X.st) := fun u H => (H.cell (p := ⟨w3.heap.size, 2, none⟩) HB6.out.lt).trans (HB6.out.cell 2)
      have x3 : ∀ u, Below V.heap.size V u → u.cell? ⟨w3.heap.size, 3, none⟩ = some (.int .i64 X.ph) := fun u H => (H.cell (p := ⟨w3.heap.size, 3, none⟩) HB6.out.lt).trans (HB6.out.cell 3)
      have x4 : ∀ u, Below V.heap.size V u → u.cell? ⟨w3.heap.size, 4, none⟩ = some (.int .i64 X.sp) := fun u H => (H.cell (p := ⟨w3.heap.size, 4, none⟩) HB6.out.lt).trans (HB6.out.cell 4)
      have x5 : ∀ u, Below V.heap.size V u → u.cell? ⟨w3.heap.size, 5, none⟩ = some (.int .i64 X.tr) := fun u H => (H.cell (p := ⟨w3.heap.size, 5, none⟩) HB6.out.lt).trans (HB6.out.cell 5)
      have x6 : ∀ u, Below V.heap.size V u → u.cell? ⟨w3.heap.size, 6, none⟩ = some (.bool X.out) := fun u H => (H.cell (p := ⟨w3.heap.size, 6, none⟩) HB6.out.lt).trans (HB6.out.cell 6)
      have x7 : ∀ u, Below V.heap.size V u → u.cell? ⟨w3.heap.size, 7, none⟩ = some (.int .i64 X.at_) := fun u H => (H.cell (p := ⟨w3.heap.size, 7, none⟩) HB6.out.lt).trans (HB6.out.cell 7)
      have x8 : ∀ u, Below V.heap.size V u → u.cell? ⟨w3.heap.size, 8, none⟩ = some (.int .i64 X.sk) := fun u H => (H.cell (p := ⟨w3.heap.size, 8, none⟩) HB6.out.lt).trans (HB6.out.cell 8)
      have y0 : ∀ u, Below V.heap.size V u → u.cell? ⟨w4.heap.size, 0, none⟩ = some (.int .i64 X.id) := fun u H => (H.cell (p := ⟨w4.heap.size, 0, none⟩) HB9.out.lt).trans (HB9.out.cell 0)
      have y1 : ∀ u, Below V.heap.size V u → u.cell? ⟨w4.heap.size, 1, none⟩ = some (.string X.dn) := fun u H => (H.cell (p := ⟨w4.heap.size, 1, none⟩) HB9.out.lt).trans (HB9.out.cell 1)
      have y2 : ∀ u, Below V.heap.size V u → u.cell? ⟨w4.heap.size, 2, none⟩ = some (.int .i64 X.st) := fun u H => (H.cell (p := ⟨w4.heap.size, 2, none⟩) HB9.out.lt).trans (HB9.out.cell 2)
      have y3 : ∀ u, Below V.heap.size V u → u.cell? ⟨w4.heap.size, 3, none⟩ = some (.int .i64 X.ph) := fun u H => (H.cell (p := ⟨w4.heap.size, 3, none⟩) HB9.out.lt).trans (HB9.out.cell 3)
      have y4 : ∀ u, Below V.heap.size V u → u.cell? ⟨w4.heap.size, 4, none⟩ = some (.int .i64 X.sp) := fun u H => (H.cell (p := ⟨w4.heap.size, 4, none⟩) HB9.out.lt).trans (HB9.out.cell 4)
      have y5 : ∀ u, Below V.heap.size V u → u.cell? ⟨w4.heap.size, 5, none⟩ = some (.int .i64 X.tr) := fun u H => (H.cell (p := ⟨w4.heap.size, 5, none⟩) HB9.out.lt).trans (HB9.out.cell 5)
      have y6 : ∀ u, Below V.heap.size V u → u.cell? ⟨w4.heap.size, 6, none⟩ = some (.bool X.out) := fun u H => (H.cell (p := ⟨w4.heap.size, 6, none⟩) HB9.out.lt).trans (HB9.out.cell 6)
      have y7 : ∀ u, Below V.heap.size V u → u.cell? ⟨w4.heap.size, 7, none⟩ = some (.int .i64 X.at_) := fun u H => (H.cell (p := ⟨w4.heap.size, 7, none⟩) HB9.out.lt).trans (HB9.out.cell 7)
      have y8 : ∀ u, Below V.heap.size V u → u.cell? ⟨w4.heap.size, 8, none⟩ = some (.int .i64 X.sk) := fun u H => (H.cell (p := ⟨w4.heap.size, 8, none⟩) HB9.out.lt).trans (HB9.out.cell 8)
      have hne : ∀ u, (binOp .neq 40 (.agg #[.int .i64 X.id, .string X.dn, .int .i64 X.st, .int .i64 X.ph, .int .i64 X.sp, .int .i64 X.tr, .bool X.out, .int .i64 X.at_, .int .i64 X.sk]) (.agg #[.int .i64 X.id, .string X.dn, .int .i64 X.st, .int .i64 X.ph, .int .i64 X.sp, .int .i64 X.tr, .bool X.out, .int .i64 X.at_, .int .i64 X.sk])).run Try.prog u = .ok (.bool false) u := fun u => by have h := neq_saga X X u; rw [eqG_iff.2 rfl] at h; exact h
      have hgd : ∀ (op : BinOp) (p q : Operand) (xs ys : Array Value) (u : World), (eqGuard op 40 p q (.agg xs) (.agg ys)).run Try.prog u = .ok () u := fun op p q xs ys u => guard_saga op p q xs ys u
      have hv1 := HV1.out
      have hoe := HOE.out
      have hv2 := HV2.out
      refine wp_region_held_drew (S := fun u => Below V.heap.size V u) (by kernel_rfl) (Below.drew (Below.refl _ _)) (fun hHeld => ?_)
      refine wpAnyH_take (i := 0) (oi := ⟨some 41, _, _, _, _, _⟩) (v := ?_) rfl (by kernel_rfl) (by kernel_rfl) (by kernel_rfl) (fun _ _ _ h => h) (Or.inl ⟨by rfl, ?_⟩) (by assumption) ?_
      rotate_left
      · (intro u hu; (try dsimp only at hu); go_simp; (try with_reducible rfl))
      (try simp only [Act.put, List.setIfInBounds_toArray, List.set_cons_zero, List.set_cons_succ])
      refine wpAnyH_take (i := 1) (oi := ⟨some 42, _, _, _, _, _⟩) (v := ?_) rfl (by kernel_rfl) (by kernel_rfl) (by kernel_rfl) (fun _ _ _ h => h) (Or.inl ⟨by rfl, ?_⟩) (by assumption) ?_
      rotate_left
      · (intro u hu; (try dsimp only at hu); go_simp; (try with_reducible rfl))
      (try simp only [Act.put, List.setIfInBounds_toArray, List.set_cons_zero, List.set_cons_succ])
      refine wpAnyH_take (i := 2) (oi := ⟨some 43, _, _, _, _, _⟩) (v := ?_) rfl (by kernel_rfl) (by kernel_rfl) (by kernel_rfl) (fun _ _ _ h => h) (Or.inl ⟨by rfl, ?_⟩) (by assumption) ?_
      rotate_left
      · (intro u hu; (try dsimp only at hu); go_simp; (try with_reducible rfl))
      (try simp only [Act.put, List.setIfInBounds_toArray, List.set_cons_zero, List.set_cons_succ])
      refine wpAnyH_ready (rs := [3]) (by kernel_rfl) (by simp) ?_
      refine AllReadyH.cons (o := ⟨some 44, _, _, _, _, _⟩) rfl (fun K hK => ?_) AllReadyH.nil
      go_simp
      refine (HRF.out _).mono ?_
      rintro e v1 ⟨rfl, hm⟩
      have hb1 := (Below.drew (Below.refl V.heap.size V)).trans (hm.below.mono (Nat.le_refl _))
      go_wp2_with fail
      refine hK.out _ _ ?_ (fun hHeld => ?_)
      · exact hb1
      clear hK K
      (try simp only [Act.put, List.setIfInBounds_toArray, List.set_cons_zero, List.set_cons_succ])
      refine wpAnyH_take (i := 4) (oi := ⟨some 45, _, _, _, _, _⟩) (v := ?_) rfl (by kernel_rfl) (by kernel_rfl) (by kernel_rfl) (fun _ _ _ h => h) (Or.inl ⟨by rfl, ?_⟩) (by assumption) ?_
      rotate_left
      · (intro u hu; (try dsimp only at hu); go_simp; (try with_reducible rfl))
      (try simp only [Act.put, List.setIfInBounds_toArray, List.set_cons_zero, List.set_cons_succ])
      refine wpAnyH_take (i := 5) (oi := ⟨some 46, _, _, _, _, _⟩) (v := ?_) rfl (by kernel_rfl) (by kernel_rfl) (by kernel_rfl) (fun _ _ _ h => h) (Or.inl ⟨by rfl, ?_⟩) (by assumption) ?_
      rotate_left
      · (intro u hu; (try dsimp only at hu); go_simp; (try with_reducible rfl))
      (try simp only [Act.put, List.setIfInBounds_toArray, List.set_cons_zero, List.set_cons_succ])
      refine wpAnyH_take (i := 6) (oi := ⟨some 47, _, _, _, _, _⟩) (v := ?_) rfl (by kernel_rfl) (by kernel_rfl) (by kernel_rfl) (fun _ _ _ h => h) (Or.inl ⟨by rfl, ?_⟩) (by assumption) ?_
      rotate_left
      · (intro u hu; (try dsimp only at hu); go_simp; (try with_reducible rfl))
      (try simp only [Act.put, List.setIfInBounds_toArray, List.set_cons_zero, List.set_cons_succ])
      refine wpAnyH_take (i := 7) (oi := ⟨some 48, _, _, _, _, _⟩) (v := ?_) rfl (by kernel_rfl) (by kernel_rfl) (by kernel_rfl) (fun _ _ _ h => h) (Or.inl ⟨by rfl, ?_⟩) (by assumption) ?_
      rotate_left
      · (intro u hu; (try dsimp only at hu); go_simp; (try with_reducible rfl))
      (try simp only [Act.put, List.setIfInBounds_toArray, List.set_cons_zero, List.set_cons_succ])
      refine wpAnyH_take (i := 8) (oi := ⟨some 49, _, _, _, _, _⟩) (v := ?_) rfl (by kernel_rfl) (by kernel_rfl) (by kernel_rfl) (fun _ _ _ h => h) (Or.inl ⟨by rfl, ?_⟩) (by assumption) ?_
      rotate_left
      · (intro u hu; (try dsimp only at hu); go_simp; (try with_reducible rfl))
      (try simp only [Act.put, List.setIfInBounds_toArray, List.set_cons_zero, List.set_cons_succ])
      refine wpAnyH_take (i := 9) (oi := ⟨some 50, _, _, _, _, _⟩) (v := ?_) rfl (by kernel_rfl) (by kernel_rfl) (by kernel_rfl) (fun _ _ _ h => h) (Or.inl ⟨by rfl, ?_⟩) (by assumption) ?_
      rotate_left
      · (intro u hu; (try dsimp only at hu); go_simp; (try with_reducible rfl))
      (try simp only [Act.put, List.setIfInBounds_toArray, List.set_cons_zero, List.set_cons_succ])
      refine wpAnyH_take (i := 10) (oi := ⟨some 51, _, _, _, _, _⟩) (v := ?_) rfl (by kernel_rfl) (by kernel_rfl) (by kernel_rfl) (fun _ _ _ h => h) (Or.inl ⟨by rfl, ?_⟩) (by assumption) ?_
      rotate_left
      · (intro u hu; (try dsimp only at hu); go_simp; (try with_reducible rfl))
      (try simp only [Act.put, List.setIfInBounds_toArray, List.set_cons_zero, List.set_cons_succ])
      refine wpAnyH_take (i := 11) (oi := ⟨some 52, _, _, _, _, _⟩) (v := ?_) rfl (by kernel_rfl) (by kernel_rfl) (by kernel_rfl) (fun _ _ _ h => h) (Or.inl ⟨by rfl, ?_⟩) (by assumption) ?_
      rotate_left
      · (intro u hu; (try dsimp only at hu); go_simp; (try with_reducible rfl))
      (try simp only [Act.put, List.setIfInBounds_toArray, List.set_cons_zero, List.set_cons_succ])
      refine wpAnyH_take (i := 12) (oi := ⟨some 53, _, _, _, _, _⟩) (v := ?_) rfl (by kernel_rfl) (by kernel_rfl) (by kernel_rfl) (fun _ _ _ h => h) (Or.inl ⟨by rfl, ?_⟩) (by assumption) ?_
      rotate_left
      · (intro u hu; (try dsimp only at hu); go_simp; (try with_reducible rfl))
      (try simp only [Act.put, List.setIfInBounds_toArray, List.set_cons_zero, List.set_cons_succ])
      refine wpAnyH_take (i := 13) (oi := ⟨some 54, _, _, _, _, _⟩) (v := ?_) rfl (by kernel_rfl) (by kernel_rfl) (by kernel_rfl) (fun _ _ _ h => h) (Or.inl ⟨by rfl, ?_⟩) (by assumption) ?_
      rotate_left
      · (intro u hu; (try dsimp only at hu); go_simp; (try with_reducible rfl))
      (try simp only [Act.put, List.setIfInBounds_toArray, List.set_cons_zero, List.set_cons_succ])
      refine wpAnyH_take (i := 14) (oi := ⟨some 55, _, _, _, _, _⟩) (v := ?_) rfl (by kernel_rfl) (by kernel_rfl) (by kernel_rfl) (fun _ _ _ h => h) (Or.inl ⟨by rfl, ?_⟩) (by assumption) ?_
      rotate_left
      · (intro u hu; (try dsimp only at hu); go_simp; (try with_reducible rfl))
      (try simp only [Act.put, List.setIfInBounds_toArray, List.set_cons_zero, List.set_cons_succ])
      refine wpAnyH_take (i := 15) (oi := ⟨some 56, _, _, _, _, _⟩) (v := ?_) rfl (by kernel_rfl) (by kernel_rfl) (by kernel_rfl) (fun _ _ _ h => h) (Or.inl ⟨by rfl, ?_⟩) (by assumption) ?_
      rotate_left
      · (intro u hu; (try dsimp only at hu); go_simp; (try with_reducible rfl))
      (try simp only [Act.put, List.setIfInBounds_toArray, List.set_cons_zero, List.set_cons_succ])
      refine wpAnyH_take (i := 16) (oi := ⟨some 57, _, _, _, _, _⟩) (v := ?_) rfl (by kernel_rfl) (by kernel_rfl) (by kernel_rfl) (fun _ _ _ h => h) (Or.inl ⟨by rfl, ?_⟩) (by assumption) ?_
      rotate_left
      · (intro u hu; (try dsimp only at hu); go_simp; (try with_reducible rfl))
      (try simp only [Act.put, List.setIfInBounds_toArray, List.set_cons_zero, List.set_cons_succ])
      refine wpAnyH_take (i := 17) (oi := ⟨some 58, _, _, _, _, _⟩) (v := ?_) rfl (by kernel_rfl) (by kernel_rfl) (by kernel_rfl) (fun _ _ _ h => h) (Or.inl ⟨by rfl, ?_⟩) (by assumption) ?_
      rotate_left
      · (intro u hu; (try dsimp only at hu); go_simp; (try with_reducible rfl))
      (try simp only [Act.put, List.setIfInBounds_toArray, List.set_cons_zero, List.set_cons_succ])
      refine wpAnyH_take (i := 18) (oi := ⟨some 59, _, _, _, _, _⟩) (v := ?_) rfl (by kernel_rfl) (by kernel_rfl) (by kernel_rfl) (fun _ _ _ h => h) (Or.inl ⟨by rfl, ?_⟩) (by assumption) ?_
      rotate_left
      · (intro u hu; (try dsimp only at hu); go_simp; (try with_reducible rfl))
      (try simp only [Act.put, List.setIfInBounds_toArray, List.set_cons_zero, List.set_cons_succ])
      refine wpAnyH_take (i := 19) (oi := ⟨some 60, _, _, _, _, _⟩) (v := ?_) rfl (by kernel_rfl) (by kernel_rfl) (by kernel_rfl) (fun _ _ _ h => h) (Or.inl ⟨by rfl, ?_⟩) (by assumption) ?_
      rotate_left
      · (intro u hu; (try dsimp only at hu); go_simp; (try with_reducible rfl))
      (try simp only [Act.put, List.setIfInBounds_toArray, List.set_cons_zero, List.set_cons_succ])
      refine wpAnyH_take (i := 20) (oi := ⟨some 61, _, _, _, _, _⟩) (v := ?_) rfl (by kernel_rfl) (by kernel_rfl) (by kernel_rfl) (fun _ _ _ h => h) (Or.inl ⟨by rfl, ?_⟩) (by assumption) ?_
      rotate_left
      · (intro u hu; (try dsimp only at hu); go_simp; (try with_reducible rfl))
      (try simp only [Act.put, List.setIfInBounds_toArray, List.set_cons_zero, List.set_cons_succ])
      refine wpAnyH_take (i := 21) (oi := ⟨some 62, _, _, _, _, _⟩) (v := ?_) rfl (by kernel_rfl) (by kernel_rfl) (by kernel_rfl) (fun _ _ _ h => h) (Or.inl ⟨by rfl, ?_⟩) (by assumption) ?_
      rotate_left
      · (intro u hu; (try dsimp only at hu); go_simp; (try with_reducible rfl))
      (try simp only [Act.put, List.setIfInBounds_toArray, List.set_cons_zero, List.set_cons_succ])
      refine wpAnyH_take (i := 22) (oi := ⟨some 63, _, _, _, _, _⟩) (v := ?_) rfl (by kernel_rfl) (by kernel_rfl) (by kernel_rfl) (fun _ _ _ h => h) (Or.inl ⟨by rfl, ?_⟩) (by assumption) ?_
      rotate_left
      · (intro u hu; (try dsimp only at hu); go_simp; (try with_reducible rfl))
      (try simp only [Act.put, List.setIfInBounds_toArray, List.set_cons_zero, List.set_cons_succ])
      refine wpAnyH_take (i := 23) (oi := ⟨some 64, _, _, _, _, _⟩) (v := ?_) rfl (by kernel_rfl) (by kernel_rfl) (by kernel_rfl) (fun _ _ _ h => h) (Or.inl ⟨by rfl, ?_⟩) (by assumption) ?_
      rotate_left
      · (intro u hu; (try dsimp only at hu); go_simp; (try with_reducible rfl))
      (try simp only [Act.put, List.setIfInBounds_toArray, List.set_cons_zero, List.set_cons_succ])
      refine wpAnyH_take (i := 24) (oi := ⟨some 65, _, _, _, _, _⟩) (v := ?_) rfl (by kernel_rfl) (by kernel_rfl) (by kernel_rfl) (fun _ _ _ h => h) (Or.inl ⟨by rfl, ?_⟩) (by assumption) ?_
      rotate_left
      · (intro u hu; (try dsimp only at hu); go_simp; (try with_reducible rfl))
      (try simp only [Act.put, List.setIfInBounds_toArray, List.set_cons_zero, List.set_cons_succ])
      refine wpAnyH_take (i := 27) (oi := ⟨some 68, _, _, _, _, _⟩) (v := ?_) rfl (by kernel_rfl) (by kernel_rfl) (by kernel_rfl) (fun _ _ _ h => h) (Or.inl ⟨by rfl, ?_⟩) (by assumption) ?_
      rotate_left
      · (intro u hu; (try dsimp only at hu); go_simp; (try with_reducible rfl))
      (try simp only [Act.put, List.setIfInBounds_toArray, List.set_cons_zero, List.set_cons_succ])
      refine wpAnyH_take (i := 28) (oi := ⟨some 69, _, _, _, _, _⟩) (v := ?_) rfl (by kernel_rfl) (by kernel_rfl) (by kernel_rfl) (fun _ _ _ h => h) (Or.inl ⟨by rfl, ?_⟩) (by assumption) ?_
      rotate_left
      · (intro u hu; (try dsimp only at hu); go_simp; (try with_reducible rfl))
      (try simp only [Act.put, List.setIfInBounds_toArray, List.set_cons_zero, List.set_cons_succ])
      refine wpAnyH_ready (rs := [25]) (by kernel_rfl) (by simp) ?_
      refine AllReadyH.cons (o := ⟨some 66, _, _, _, _, _⟩) rfl (fun K hK => ?_) AllReadyH.nil
      go_simp
      refine (HPX.out v1).mono ?_
      rintro e v2 ⟨A5, c5, rfl, h5, y5, b5⟩
      have hb2 := hb1.trans (b5.mono hb1.size)
      have hcv : ∀ u, Below v2.heap.size v2 u → (convert 25 9 (.slice A5 (sagaF X).length c5)).run Try.prog u = .ok (.string t2) u := fun u H => by rw [HT2.out]; exact (y5.below H).text 25 5 9 Try.underlying25 Try.underlying5 Try.underlying9 c5
      go_wp2_with fail
      refine hK.out _ _ ?_ (fun hHeld => ?_)
      · exact hb2
      clear hK K
      (try simp only [Act.put, List.setIfInBounds_toArray, List.set_cons_zero, List.set_cons_succ])
      refine wpAnyH_mono (S' := fun u => Below V.heap.size V u ∧ Below v2.heap.size v2 u) (fun _ h => h.1) _ _ _ _ ?_
      have hH5 : (fun u => Below V.heap.size V u ∧ Below v2.heap.size v2 u) v2 := ⟨hb2, Below.refl _ _⟩
      have hv3 : ∀ u, Below V.heap.size V u ∧ Below v2.heap.size v2 u → (convert 25 9 (.slice A1 l.length c1)).run Try.prog u = .ok (.string t2) u := fun u H => hv2 u H.1
      have hcv2 : ∀ u, Below V.heap.size V u ∧ Below v2.heap.size v2 u → (convert 25 9 (.slice A5 (sagaF X).length c5)).run Try.prog u = .ok (.string t2) u := fun u H => hcv u H.2
      clear hv2 hcv
      refine wpAnyH_take (i := 26) (oi := ⟨some 67, _, _, _, _, _⟩) (v := ?_) rfl (by kernel_rfl) (by kernel_rfl) (by kernel_rfl) (fun _ _ _ h => h) (Or.inl ⟨by rfl, ?_⟩) (by assumption) ?_
      rotate_left
      · (intro u hu; (try dsimp only at hu); go_simp; (try with_reducible rfl))
      (try simp only [Act.put, List.setIfInBounds_toArray, List.set_cons_zero, List.set_cons_succ])
      refine wpAnyH_take (i := 29) (oi := ⟨some 70, _, _, _, _, _⟩) (v := ?_) rfl (by kernel_rfl) (by kernel_rfl) (by kernel_rfl) (fun _ _ _ h => h) (Or.inl ⟨by rfl, ?_⟩) (by assumption) ?_
      rotate_left
      · (intro u hu; (try dsimp only at hu); go_simp; (try with_reducible rfl))
      (try simp only [Act.put, List.setIfInBounds_toArray, List.set_cons_zero, List.set_cons_succ])
      refine wpAnyH_take (i := 30) (oi := ⟨some 71, _, _, _, _, _⟩) (v := ?_) rfl (by kernel_rfl) (by kernel_rfl) (by kernel_rfl) (fun _ _ _ h => h) (Or.inl ⟨by rfl, ?_⟩) (by assumption) ?_
      rotate_left
      · (intro u hu; (try dsimp only at hu); go_simp; (try with_reducible rfl))
      (try simp only [Act.put, List.setIfInBounds_toArray, List.set_cons_zero, List.set_cons_succ])
      refine wpAnyH_take (i := 31) (oi := ⟨some 72, _, _, _, _, _⟩) (v := ?_) rfl (by kernel_rfl) (by kernel_rfl) (by kernel_rfl) (fun _ _ _ h => h) (Or.inl ⟨by rfl, ?_⟩) (by assumption) ?_
      rotate_left
      · (intro u hu; (try dsimp only at hu); go_simp; (try with_reducible rfl))
      (try simp only [Act.put, List.setIfInBounds_toArray, List.set_cons_zero, List.set_cons_succ])
      refine wpAnyH_done (by kernel_rfl) ?_ _
      go_wp2_with fail
      go_meet
      exact ⟨rfl, Lib.hid hb2⟩
    · as_aux_lemma =>
      have HOE : Hid (((er : Int) == 0) = false) := Lib.hid (by simpa using he)
      clear he
      have a0 : ∀ u, Below V.heap.size V u → u.cell? ⟨w.heap.size, 0, none⟩ = some (.int .i64 s.id) := fun u H => (H.cell (p := ⟨w.heap.size, 0, none⟩) HB2.out.lt).trans (HB2.out.cell 0)
      have a1 : ∀ u, Below V.heap.size V u → u.cell? ⟨w.heap.size, 1, none⟩ = some (.string s.dn) := fun u H => (H.cell (p := ⟨w.heap.size, 1, none⟩) HB2.out.lt).trans (HB2.out.cell 1)
      have a2 : ∀ u, Below V.heap.size V u → u.cell? ⟨w.heap.size, 2, none⟩ = some (.int .i64 s.st) := fun u H => (H.cell (p := ⟨w.heap.size, 2, none⟩) HB2.out.lt).trans (HB2.out.cell 2)
      have a3 : ∀ u, Below V.heap.size V u → u.cell? ⟨w.heap.size, 3, none⟩ = some (.int .i64 s.ph) := fun u H => (H.cell (p := ⟨w.heap.size, 3, none⟩) HB2.out.lt).trans (HB2.out.cell 3)
      have a4 : ∀ u, Below V.heap.size V u → u.cell? ⟨w.heap.size, 4, none⟩ = some (.int .i64 s.sp) := fun u H => (H.cell (p := ⟨w.heap.size, 4, none⟩) HB2.out.lt).trans (HB2.out.cell 4)
      have a5 : ∀ u, Below V.heap.size V u → u.cell? ⟨w.heap.size, 5, none⟩ = some (.int .i64 s.tr) := fun u H => (H.cell (p := ⟨w.heap.size, 5, none⟩) HB2.out.lt).trans (HB2.out.cell 5)
      have a6 : ∀ u, Below V.heap.size V u → u.cell? ⟨w.heap.size, 6, none⟩ = some (.bool s.out) := fun u H => (H.cell (p := ⟨w.heap.size, 6, none⟩) HB2.out.lt).trans (HB2.out.cell 6)
      have a7 : ∀ u, Below V.heap.size V u → u.cell? ⟨w.heap.size, 7, none⟩ = some (.int .i64 s.at_) := fun u H => (H.cell (p := ⟨w.heap.size, 7, none⟩) HB2.out.lt).trans (HB2.out.cell 7)
      have a8 : ∀ u, Below V.heap.size V u → u.cell? ⟨w.heap.size, 8, none⟩ = some (.int .i64 s.sk) := fun u H => (H.cell (p := ⟨w.heap.size, 8, none⟩) HB2.out.lt).trans (HB2.out.cell 8)
      have x0 : ∀ u, Below V.heap.size V u → u.cell? ⟨w3.heap.size, 0, none⟩ = some (.int .i64 X.id) := fun u H => (H.cell (p := ⟨w3.heap.size, 0, none⟩) HB6.out.lt).trans (HB6.out.cell 0)
      have x1 : ∀ u, Below V.heap.size V u → u.cell? ⟨w3.heap.size, 1, none⟩ = some (.string X.dn) := fun u H => (H.cell (p := ⟨w3.heap.size, 1, none⟩) HB6.out.lt).trans (HB6.out.cell 1)
      have x2 : ∀ u, Below V.heap.size V u → u.cell? ⟨w3.heap.size, 2, none⟩ = some (.int .i64 X.st) := fun u H => (H.cell (p := ⟨w3.heap.size, 2, none⟩) HB6.out.lt).trans (HB6.out.cell 2)
      have x3 : ∀ u, Below V.heap.size V u → u.cell? ⟨w3.heap.size, 3, none⟩ = some (.int .i64 X.ph) := fun u H => (H.cell (p := ⟨w3.heap.size, 3, none⟩) HB6.out.lt).trans (HB6.out.cell 3)
      have x4 : ∀ u, Below V.heap.size V u → u.cell? ⟨w3.heap.size, 4, none⟩ = some (.int .i64 X.sp) := fun u H => (H.cell (p := ⟨w3.heap.size, 4, none⟩) HB6.out.lt).trans (HB6.out.cell 4)
      have x5 : ∀ u, Below V.heap.size V u → u.cell? ⟨w3.heap.size, 5, none⟩ = some (.int .i64 X.tr) := fun u H => (H.cell (p := ⟨w3.heap.size, 5, none⟩) HB6.out.lt).trans (HB6.out.cell 5)
      have x6 : ∀ u, Below V.heap.size V u → u.cell? ⟨w3.heap.size, 6, none⟩ = some (.bool X.out) := fun u H => (H.cell (p := ⟨w3.heap.size, 6, none⟩) HB6.out.lt).trans (HB6.out.cell 6)
      have x7 : ∀ u, Below V.heap.size V u → u.cell? ⟨w3.heap.size, 7, none⟩ = some (.int .i64 X.at_) := fun u H => (H.cell (p := ⟨w3.heap.size, 7, none⟩) HB6.out.lt).trans (HB6.out.cell 7)
      have x8 : ∀ u, Below V.heap.size V u → u.cell? ⟨w3.heap.size, 8, none⟩ = some (.int .i64 X.sk) := fun u H => (H.cell (p := ⟨w3.heap.size, 8, none⟩) HB6.out.lt).trans (HB6.out.cell 8)
      have y0 : ∀ u, Below V.heap.size V u → u.cell? ⟨w4.heap.size, 0, none⟩ = some (.int .i64 X.id) := fun u H => (H.cell (p := ⟨w4.heap.size, 0, none⟩) HB9.out.lt).trans (HB9.out.cell 0)
      have y1 : ∀ u, Below V.heap.size V u → u.cell? ⟨w4.heap.size, 1, none⟩ = some (.string X.dn) := fun u H => (H.cell (p := ⟨w4.heap.size, 1, none⟩) HB9.out.lt).trans (HB9.out.cell 1)
      have y2 : ∀ u, Below V.heap.size V u → u.cell? ⟨w4.heap.size, 2, none⟩ = some (.int .i64 X.st) := fun u H => (H.cell (p := ⟨w4.heap.size, 2, none⟩) HB9.out.lt).trans (HB9.out.cell 2)
      have y3 : ∀ u, Below V.heap.size V u → u.cell? ⟨w4.heap.size, 3, none⟩ = some (.int .i64 X.ph) := fun u H => (H.cell (p := ⟨w4.heap.size, 3, none⟩) HB9.out.lt).trans (HB9.out.cell 3)
      have y4 : ∀ u, Below V.heap.size V u → u.cell? ⟨w4.heap.size, 4, none⟩ = some (.int .i64 X.sp) := fun u H => (H.cell (p := ⟨w4.heap.size, 4, none⟩) HB9.out.lt).trans (HB9.out.cell 4)
      have y5 : ∀ u, Below V.heap.size V u → u.cell? ⟨w4.heap.size, 5, none⟩ = some (.int .i64 X.tr) := fun u H => (H.cell (p := ⟨w4.heap.size, 5, none⟩) HB9.out.lt).trans (HB9.out.cell 5)
      have y6 : ∀ u, Below V.heap.size V u → u.cell? ⟨w4.heap.size, 6, none⟩ = some (.bool X.out) := fun u H => (H.cell (p := ⟨w4.heap.size, 6, none⟩) HB9.out.lt).trans (HB9.out.cell 6)
      have y7 : ∀ u, Below V.heap.size V u → u.cell? ⟨w4.heap.size, 7, none⟩ = some (.int .i64 X.at_) := fun u H => (H.cell (p := ⟨w4.heap.size, 7, none⟩) HB9.out.lt).trans (HB9.out.cell 7)
      have y8 : ∀ u, Below V.heap.size V u → u.cell? ⟨w4.heap.size, 8, none⟩ = some (.int .i64 X.sk) := fun u H => (H.cell (p := ⟨w4.heap.size, 8, none⟩) HB9.out.lt).trans (HB9.out.cell 8)
      have hne : ∀ u, (binOp .neq 40 (.agg #[.int .i64 X.id, .string X.dn, .int .i64 X.st, .int .i64 X.ph, .int .i64 X.sp, .int .i64 X.tr, .bool X.out, .int .i64 X.at_, .int .i64 X.sk]) (.agg #[.int .i64 X.id, .string X.dn, .int .i64 X.st, .int .i64 X.ph, .int .i64 X.sp, .int .i64 X.tr, .bool X.out, .int .i64 X.at_, .int .i64 X.sk])).run Try.prog u = .ok (.bool false) u := fun u => by have h := neq_saga X X u; rw [eqG_iff.2 rfl] at h; exact h
      have hgd : ∀ (op : BinOp) (p q : Operand) (xs ys : Array Value) (u : World), (eqGuard op 40 p q (.agg xs) (.agg ys)).run Try.prog u = .ok () u := fun op p q xs ys u => guard_saga op p q xs ys u
      have hv1 := HV1.out
      have hoe := HOE.out
      refine wp_region_held_drew (S := fun u => Below V.heap.size V u) (by kernel_rfl) (Below.drew (Below.refl _ _)) (fun hHeld => ?_)
      refine wpAnyH_take (i := 0) (oi := ⟨some 41, _, _, _, _, _⟩) (v := ?_) rfl (by kernel_rfl) (by kernel_rfl) (by kernel_rfl) (fun _ _ _ h => h) (Or.inl ⟨by rfl, ?_⟩) (by assumption) ?_
      rotate_left
      · (intro u hu; (try dsimp only at hu); go_simp; (try with_reducible rfl))
      (try simp only [Act.put, List.setIfInBounds_toArray, List.set_cons_zero, List.set_cons_succ])
      refine wpAnyH_take (i := 1) (oi := ⟨some 42, _, _, _, _, _⟩) (v := ?_) rfl (by kernel_rfl) (by kernel_rfl) (by kernel_rfl) (fun _ _ _ h => h) (Or.inl ⟨by rfl, ?_⟩) (by assumption) ?_
      rotate_left
      · (intro u hu; (try dsimp only at hu); go_simp; (try with_reducible rfl))
      (try simp only [Act.put, List.setIfInBounds_toArray, List.set_cons_zero, List.set_cons_succ])
      refine wpAnyH_take (i := 2) (oi := ⟨some 43, _, _, _, _, _⟩) (v := ?_) rfl (by kernel_rfl) (by kernel_rfl) (by kernel_rfl) (fun _ _ _ h => h) (Or.inl ⟨by rfl, ?_⟩) (by assumption) ?_
      rotate_left
      · (intro u hu; (try dsimp only at hu); go_simp; (try with_reducible rfl))
      (try simp only [Act.put, List.setIfInBounds_toArray, List.set_cons_zero, List.set_cons_succ])
      refine wpAnyH_ready (rs := [3]) (by kernel_rfl) (by simp) ?_
      refine AllReadyH.cons (o := ⟨some 44, _, _, _, _, _⟩) rfl (fun K hK => ?_) AllReadyH.nil
      go_simp
      refine (HRF.out _).mono ?_
      rintro e v1 ⟨rfl, hm⟩
      have hb1 := (Below.drew (Below.refl V.heap.size V)).trans (hm.below.mono (Nat.le_refl _))
      go_wp2_with fail
      refine hK.out _ _ ?_ (fun hHeld => ?_)
      · exact hb1
      clear hK K
      (try simp only [Act.put, List.setIfInBounds_toArray, List.set_cons_zero, List.set_cons_succ])
      refine wpAnyH_take (i := 4) (oi := ⟨some 45, _, _, _, _, _⟩) (v := ?_) rfl (by kernel_rfl) (by kernel_rfl) (by kernel_rfl) (fun _ _ _ h => h) (Or.inl ⟨by rfl, ?_⟩) (by assumption) ?_
      rotate_left
      · (intro u hu; (try dsimp only at hu); go_simp; (try with_reducible rfl))
      (try simp only [Act.put, List.setIfInBounds_toArray, List.set_cons_zero, List.set_cons_succ])
      refine wpAnyH_take (i := 5) (oi := ⟨some 46, _, _, _, _, _⟩) (v := ?_) rfl (by kernel_rfl) (by kernel_rfl) (by kernel_rfl) (fun _ _ _ h => h) (Or.inl ⟨by rfl, ?_⟩) (by assumption) ?_
      rotate_left
      · (intro u hu; (try dsimp only at hu); go_simp; (try with_reducible rfl))
      (try simp only [Act.put, List.setIfInBounds_toArray, List.set_cons_zero, List.set_cons_succ])
      refine wpAnyH_take (i := 6) (oi := ⟨some 47, _, _, _, _, _⟩) (v := ?_) rfl (by kernel_rfl) (by kernel_rfl) (by kernel_rfl) (fun _ _ _ h => h) (Or.inl ⟨by rfl, ?_⟩) (by assumption) ?_
      rotate_left
      · (intro u hu; (try dsimp only at hu); go_simp; (try with_reducible rfl))
      (try simp only [Act.put, List.setIfInBounds_toArray, List.set_cons_zero, List.set_cons_succ])
      refine wpAnyH_take (i := 7) (oi := ⟨some 48, _, _, _, _, _⟩) (v := ?_) rfl (by kernel_rfl) (by kernel_rfl) (by kernel_rfl) (fun _ _ _ h => h) (Or.inl ⟨by rfl, ?_⟩) (by assumption) ?_
      rotate_left
      · (intro u hu; (try dsimp only at hu); go_simp; (try with_reducible rfl))
      (try simp only [Act.put, List.setIfInBounds_toArray, List.set_cons_zero, List.set_cons_succ])
      refine wpAnyH_take (i := 8) (oi := ⟨some 49, _, _, _, _, _⟩) (v := ?_) rfl (by kernel_rfl) (by kernel_rfl) (by kernel_rfl) (fun _ _ _ h => h) (Or.inl ⟨by rfl, ?_⟩) (by assumption) ?_
      rotate_left
      · (intro u hu; (try dsimp only at hu); go_simp; (try with_reducible rfl))
      (try simp only [Act.put, List.setIfInBounds_toArray, List.set_cons_zero, List.set_cons_succ])
      refine wpAnyH_take (i := 9) (oi := ⟨some 50, _, _, _, _, _⟩) (v := ?_) rfl (by kernel_rfl) (by kernel_rfl) (by kernel_rfl) (fun _ _ _ h => h) (Or.inl ⟨by rfl, ?_⟩) (by assumption) ?_
      rotate_left
      · (intro u hu; (try dsimp only at hu); go_simp; (try with_reducible rfl))
      (try simp only [Act.put, List.setIfInBounds_toArray, List.set_cons_zero, List.set_cons_succ])
      refine wpAnyH_take (i := 10) (oi := ⟨some 51, _, _, _, _, _⟩) (v := ?_) rfl (by kernel_rfl) (by kernel_rfl) (by kernel_rfl) (fun _ _ _ h => h) (Or.inl ⟨by rfl, ?_⟩) (by assumption) ?_
      rotate_left
      · (intro u hu; (try dsimp only at hu); go_simp; (try with_reducible rfl))
      (try simp only [Act.put, List.setIfInBounds_toArray, List.set_cons_zero, List.set_cons_succ])
      refine wpAnyH_take (i := 11) (oi := ⟨some 52, _, _, _, _, _⟩) (v := ?_) rfl (by kernel_rfl) (by kernel_rfl) (by kernel_rfl) (fun _ _ _ h => h) (Or.inl ⟨by rfl, ?_⟩) (by assumption) ?_
      rotate_left
      · (intro u hu; (try dsimp only at hu); go_simp; (try with_reducible rfl))
      (try simp only [Act.put, List.setIfInBounds_toArray, List.set_cons_zero, List.set_cons_succ])
      refine wpAnyH_take (i := 12) (oi := ⟨some 53, _, _, _, _, _⟩) (v := ?_) rfl (by kernel_rfl) (by kernel_rfl) (by kernel_rfl) (fun _ _ _ h => h) (Or.inl ⟨by rfl, ?_⟩) (by assumption) ?_
      rotate_left
      · (intro u hu; (try dsimp only at hu); go_simp; (try with_reducible rfl))
      (try simp only [Act.put, List.setIfInBounds_toArray, List.set_cons_zero, List.set_cons_succ])
      refine wpAnyH_take (i := 13) (oi := ⟨some 54, _, _, _, _, _⟩) (v := ?_) rfl (by kernel_rfl) (by kernel_rfl) (by kernel_rfl) (fun _ _ _ h => h) (Or.inl ⟨by rfl, ?_⟩) (by assumption) ?_
      rotate_left
      · (intro u hu; (try dsimp only at hu); go_simp; (try with_reducible rfl))
      (try simp only [Act.put, List.setIfInBounds_toArray, List.set_cons_zero, List.set_cons_succ])
      refine wpAnyH_take (i := 14) (oi := ⟨some 55, _, _, _, _, _⟩) (v := ?_) rfl (by kernel_rfl) (by kernel_rfl) (by kernel_rfl) (fun _ _ _ h => h) (Or.inl ⟨by rfl, ?_⟩) (by assumption) ?_
      rotate_left
      · (intro u hu; (try dsimp only at hu); go_simp; (try with_reducible rfl))
      (try simp only [Act.put, List.setIfInBounds_toArray, List.set_cons_zero, List.set_cons_succ])
      refine wpAnyH_take (i := 15) (oi := ⟨some 56, _, _, _, _, _⟩) (v := ?_) rfl (by kernel_rfl) (by kernel_rfl) (by kernel_rfl) (fun _ _ _ h => h) (Or.inl ⟨by rfl, ?_⟩) (by assumption) ?_
      rotate_left
      · (intro u hu; (try dsimp only at hu); go_simp; (try with_reducible rfl))
      (try simp only [Act.put, List.setIfInBounds_toArray, List.set_cons_zero, List.set_cons_succ])
      refine wpAnyH_take (i := 16) (oi := ⟨some 57, _, _, _, _, _⟩) (v := ?_) rfl (by kernel_rfl) (by kernel_rfl) (by kernel_rfl) (fun _ _ _ h => h) (Or.inl ⟨by rfl, ?_⟩) (by assumption) ?_
      rotate_left
      · (intro u hu; (try dsimp only at hu); go_simp; (try with_reducible rfl))
      (try simp only [Act.put, List.setIfInBounds_toArray, List.set_cons_zero, List.set_cons_succ])
      refine wpAnyH_take (i := 17) (oi := ⟨some 58, _, _, _, _, _⟩) (v := ?_) rfl (by kernel_rfl) (by kernel_rfl) (by kernel_rfl) (fun _ _ _ h => h) (Or.inl ⟨by rfl, ?_⟩) (by assumption) ?_
      rotate_left
      · (intro u hu; (try dsimp only at hu); go_simp; (try with_reducible rfl))
      (try simp only [Act.put, List.setIfInBounds_toArray, List.set_cons_zero, List.set_cons_succ])
      refine wpAnyH_take (i := 18) (oi := ⟨some 59, _, _, _, _, _⟩) (v := ?_) rfl (by kernel_rfl) (by kernel_rfl) (by kernel_rfl) (fun _ _ _ h => h) (Or.inl ⟨by rfl, ?_⟩) (by assumption) ?_
      rotate_left
      · (intro u hu; (try dsimp only at hu); go_simp; (try with_reducible rfl))
      (try simp only [Act.put, List.setIfInBounds_toArray, List.set_cons_zero, List.set_cons_succ])
      refine wpAnyH_take (i := 19) (oi := ⟨some 60, _, _, _, _, _⟩) (v := ?_) rfl (by kernel_rfl) (by kernel_rfl) (by kernel_rfl) (fun _ _ _ h => h) (Or.inl ⟨by rfl, ?_⟩) (by assumption) ?_
      rotate_left
      · (intro u hu; (try dsimp only at hu); go_simp; (try with_reducible rfl))
      (try simp only [Act.put, List.setIfInBounds_toArray, List.set_cons_zero, List.set_cons_succ])
      refine wpAnyH_take (i := 20) (oi := ⟨some 61, _, _, _, _, _⟩) (v := ?_) rfl (by kernel_rfl) (by kernel_rfl) (by kernel_rfl) (fun _ _ _ h => h) (Or.inl ⟨by rfl, ?_⟩) (by assumption) ?_
      rotate_left
      · (intro u hu; (try dsimp only at hu); go_simp; (try with_reducible rfl))
      (try simp only [Act.put, List.setIfInBounds_toArray, List.set_cons_zero, List.set_cons_succ])
      refine wpAnyH_take (i := 21) (oi := ⟨some 62, _, _, _, _, _⟩) (v := ?_) rfl (by kernel_rfl) (by kernel_rfl) (by kernel_rfl) (fun _ _ _ h => h) (Or.inl ⟨by rfl, ?_⟩) (by assumption) ?_
      rotate_left
      · (intro u hu; (try dsimp only at hu); go_simp; (try with_reducible rfl))
      (try simp only [Act.put, List.setIfInBounds_toArray, List.set_cons_zero, List.set_cons_succ])
      refine wpAnyH_take (i := 22) (oi := ⟨some 63, _, _, _, _, _⟩) (v := ?_) rfl (by kernel_rfl) (by kernel_rfl) (by kernel_rfl) (fun _ _ _ h => h) (Or.inl ⟨by rfl, ?_⟩) (by assumption) ?_
      rotate_left
      · (intro u hu; (try dsimp only at hu); go_simp; (try with_reducible rfl))
      (try simp only [Act.put, List.setIfInBounds_toArray, List.set_cons_zero, List.set_cons_succ])
      refine wpAnyH_take (i := 23) (oi := ⟨some 64, _, _, _, _, _⟩) (v := ?_) rfl (by kernel_rfl) (by kernel_rfl) (by kernel_rfl) (fun _ _ _ h => h) (Or.inl ⟨by rfl, ?_⟩) (by assumption) ?_
      rotate_left
      · (intro u hu; (try dsimp only at hu); go_simp; (try with_reducible rfl))
      (try simp only [Act.put, List.setIfInBounds_toArray, List.set_cons_zero, List.set_cons_succ])
      refine wpAnyH_take (i := 24) (oi := ⟨some 65, _, _, _, _, _⟩) (v := undef) rfl (by kernel_rfl) (by kernel_rfl) (by kernel_rfl) (fun _ _ _ h => h) (Or.inr ⟨by rfl, rfl⟩) (by assumption) ?_
      (try simp only [Act.put, List.setIfInBounds_toArray, List.set_cons_zero, List.set_cons_succ])
      refine wpAnyH_take (i := 25) (oi := ⟨some 66, _, _, _, _, _⟩) (v := undef) rfl (by kernel_rfl) (by kernel_rfl) (by kernel_rfl) (fun _ _ _ h => h) (Or.inr ⟨by rfl, rfl⟩) (by assumption) ?_
      (try simp only [Act.put, List.setIfInBounds_toArray, List.set_cons_zero, List.set_cons_succ])
      refine wpAnyH_take (i := 26) (oi := ⟨some 67, _, _, _, _, _⟩) (v := undef) rfl (by kernel_rfl) (by kernel_rfl) (by kernel_rfl) (fun _ _ _ h => h) (Or.inr ⟨by rfl, rfl⟩) (by assumption) ?_
      (try simp only [Act.put, List.setIfInBounds_toArray, List.set_cons_zero, List.set_cons_succ])
      refine wpAnyH_take (i := 27) (oi := ⟨some 68, _, _, _, _, _⟩) (v := undef) rfl (by kernel_rfl) (by kernel_rfl) (by kernel_rfl) (fun _ _ _ h => h) (Or.inr ⟨by rfl, rfl⟩) (by assumption) ?_
      (try simp only [Act.put, List.setIfInBounds_toArray, List.set_cons_zero, List.set_cons_succ])
      refine wpAnyH_take (i := 28) (oi := ⟨some 69, _, _, _, _, _⟩) (v := undef) rfl (by kernel_rfl) (by kernel_rfl) (by kernel_rfl) (fun _ _ _ h => h) (Or.inr ⟨by rfl, rfl⟩) (by assumption) ?_
      (try simp only [Act.put, List.setIfInBounds_toArray, List.set_cons_zero, List.set_cons_succ])
      refine wpAnyH_take (i := 29) (oi := ⟨some 70, _, _, _, _, _⟩) (v := undef) rfl (by kernel_rfl) (by kernel_rfl) (by kernel_rfl) (fun _ _ _ h => h) (Or.inr ⟨by rfl, rfl⟩) (by assumption) ?_
      (try simp only [Act.put, List.setIfInBounds_toArray, List.set_cons_zero, List.set_cons_succ])
      refine wpAnyH_take (i := 30) (oi := ⟨some 71, _, _, _, _, _⟩) (v := ?_) rfl (by kernel_rfl) (by kernel_rfl) (by kernel_rfl) (fun _ _ _ h => h) (Or.inl ⟨by rfl, ?_⟩) (by assumption) ?_
      rotate_left
      · (intro u hu; (try dsimp only at hu); go_simp; (try with_reducible rfl))
      (try simp only [Act.put, List.setIfInBounds_toArray, List.set_cons_zero, List.set_cons_succ])
      refine wpAnyH_take (i := 31) (oi := ⟨some 72, _, _, _, _, _⟩) (v := ?_) rfl (by kernel_rfl) (by kernel_rfl) (by kernel_rfl) (fun _ _ _ h => h) (Or.inl ⟨by rfl, ?_⟩) (by assumption) ?_
      rotate_left
      · (intro u hu; (try dsimp only at hu); go_simp; (try with_reducible rfl))
      (try simp only [Act.put, List.setIfInBounds_toArray, List.set_cons_zero, List.set_cons_succ])
      refine wpAnyH_done (by kernel_rfl) ?_ _
      go_wp2_with fail
      go_meet
      exact ⟨rfl, Lib.hid hb1⟩
  case rest =>
    obtain ⟨rfl, HWx⟩ := hcut
    have HBx := Lib.hid (HB2.out.below HWx.out HB2.out.lt)
    have HWw := Lib.hid (HW5.out.trans (HWx.out.mono HW5.out.size))
    have HYx := Lib.hid ((HY5.out.below HWx.out).more HWx.out.size)
    rw [HN2.out]
    go_wp2_with fail
    refine (HTs.out A2 c2 wc HYx.out).mono ?_
    rintro e w6 ⟨rfl, b6⟩
    have HB6x := Lib.hid ((HBx.out.below b6 HBx.out.lt).alloc (.cells (sgA (clG s)) 40))
    have HB12 := Lib.hid (Box.new w6 40 (sgA (clG s)))
    have HW6 := Lib.hid (HWw.out.trans (b6.mono HWw.out.size))
    have HW7 := Lib.hid (HW6.out.alloc HW6.out.size (.cells (sgA (clG s)) 40))
    clear b6 HBx HWw HYx
    unfold sgA at HB12 HB6x HW7
    go_upto_region 11 with fail
    generalize w6.alloc (.cells #[.int .i64 (clG s).id, .string (clG s).dn, .int .i64 (clG s).st, .int .i64 (clG s).ph, .int .i64 (clG s).sp, .int .i64 (clG s).tr, .bool (clG s).out, .int .i64 (clG s).at_, .int .i64 (clG s).sk] 40) = W7 at *
    obtain ⟨d0, d1, d2, d3, d4, d5, d6, d7, d8⟩ := sgc (s := s) HB6x.out
    go_cut [111] from 79 to 110 (fun v wx => ∃ b, v = .bool b ∧ (b = false → 0 ≤ s.id ∧ 0 ≤ s.st ∧ 0 ≤ s.ph ∧ 0 ≤ s.sp ∧ 0 ≤ s.tr ∧ 0 ≤ s.at_ ∧ 0 ≤ s.sk) ∧ wx = W7)
    case first =>
      by_cases gid : s.id < 0
      · go_wp2
        go_meet
        exact ⟨_, rfl, fun h => by simp at h, rfl⟩
      by_cases gst : s.st < 0
      · go_wp2
        go_meet
        exact ⟨_, rfl, fun h => by simp at h, rfl⟩
      by_cases gph : s.ph < 0
      · go_wp2
        go_meet
        exact ⟨_, rfl, fun h => by simp at h, rfl⟩
      by_cases gsp : s.sp < 0
      · go_wp2
        go_meet
        exact ⟨_, rfl, fun h => by simp at h, rfl⟩
      by_cases gtr : s.tr < 0
      · go_wp2
        go_meet
        exact ⟨_, rfl, fun h => by simp at h, rfl⟩
      by_cases gat_ : s.at_ < 0
      · go_wp2
        go_meet
        exact ⟨_, rfl, fun h => by simp at h, rfl⟩
      by_cases gsk : s.sk < 0
      · go_wp2
        go_meet
        exact ⟨_, rfl, fun h => by simp at h, rfl⟩
      go_wp2
      go_meet
      exact ⟨_, rfl, fun _ => by omega, rfl⟩
    case rest =>
      obtain ⟨b, rfl, hnn, rfl⟩ := hcut
      cases b with
      | true =>
        go_wp2
        go_ret
        exact ⟨rfl, HW7.out⟩
      | false =>
        have hnn := hnn rfl
        go_upto_region 13 with fail
        go_cut [129] from 114 to 128 (fun v wx => ∃ b, v = .bool b ∧ (b = false → s.id ≤ 4611686018427387904 ∧ s.st ≤ 4611686018427387904 ∧ s.ph ≤ 4611686018427387904 ∧ s.sp ≤ 4611686018427387904 ∧ s.tr ≤ 4611686018427387904 ∧ s.at_ ≤ 4611686018427387904 ∧ s.sk ≤ 4611686018427387904) ∧ wx = wc)
        case first =>
          obtain ⟨M, hM⟩ : ∃ M, M = mx (mx (mx (mx (mx (mx s.id s.st) s.ph) s.sp) s.tr) s.at_) s.sk := ⟨_, rfl⟩
          have HM := Lib.hid hM
          clear hM
          go_wp2_with (refine wpList_max7 rfl (.tmp 115) (.tmp 117) (.tmp 119) (.tmp 121) (.tmp 123) (.tmp 125) (.tmp 127) _ rfl _ _ _ _ _ _ _ M rfl rfl rfl rfl rfl rfl rfl HM.out ?_)
          go_meet
          refine ⟨_, rfl, fun h => ?_, rfl⟩
          have hle : M ≤ 4611686018427387904 := by simpa using h
          rw [HM.out] at hle
          have l6 := mx_le hle
          have l5 := mx_le l6.1
          have l4 := mx_le l5.1
          have l3 := mx_le l4.1
          have l2 := mx_le l3.1
          have l1 := mx_le l2.1
          exact ⟨l1.1, l1.2, l2.2, l3.2, l4.2, l5.2, l6.2⟩
        case rest =>
          obtain ⟨b, rfl, hle, rfl⟩ := hcut
          cases b with
          | true =>
            go_wp2
            go_ret
            exact ⟨rfl, HW7.out⟩
          | false =>
            have hle := hle rfl
            have hcl : clG s = s := by
              unfold clG
              rw [clp_id hnn.1 hle.1, clp_id hnn.2.1 hle.2.1, clp_id hnn.2.2.1 hle.2.2.1, clp_id hnn.2.2.2.1 hle.2.2.2.1, clp_id hnn.2.2.2.2.1 hle.2.2.2.2.1, clp_id hnn.2.2.2.2.2.1 hle.2.2.2.2.2.1, clp_id hnn.2.2.2.2.2.2 hle.2.2.2.2.2.2]
            rw [hcl] at HB12
            clear hcl hnn hle
            obtain ⟨f0, f1, f2, f3, f4, f5, f6, f7, f8⟩ := sgc (s := s) HB12.out
            have heq : ∀ u, (binOp .eql 40 (.agg #[.int .i64 s.id, .string s.dn, .int .i64 s.st, .int .i64 s.ph, .int .i64 s.sp, .int .i64 s.tr, .bool s.out, .int .i64 s.at_, .int .i64 s.sk]) (.agg #[.int .i64 s.id, .string s.dn, .int .i64 s.st, .int .i64 s.ph, .int .i64 s.sp, .int .i64 s.tr, .bool s.out, .int .i64 s.at_, .int .i64 s.sk])).run Try.prog u = .ok (.bool true) u := fun u => by have h := eql_saga s s u; rw [eqG_iff.2 rfl] at h; exact h
            have hgd := guard_saga
            go_wp2
            go_ret
            exact ⟨rfl, HW7.out⟩

set_option maxRecDepth 100000 in
theorem lifted (os : Os) (started : os.Started) (H : Type) (enc : TypeId × Value → H) :
    ReturnsInHanded {} Try.checked os 4 .any (Rows.codeSagasSpec.pre6 enc Try.prog Try.f4 Rows.codeSagasRow.domain false) (Rows.codeSagasSpec.post enc Try.prog Try.f4 false true false false) := by
  refine returnsInHanded_of_change_sized (C := Try.checked) own started (by kernel_rfl) Try.func4
    (ChangeSpec.witness6 (enc := enc) (C := Try.checked) false ⟨#[], #[.agg #[.int .i64 0, .string ⟨#[]⟩, .int .i64 0, .int .i64 0, .int .i64 0, .int .i64 0, .bool false, .int .i64 0, .int .i64 0], .slice none 0 0], []⟩ 8 (by kernel_rfl) (by kernel_rfl) (by kernel_rfl) (by kernel_rfl)) ?_
  intro W base args ds gs before hval0 hW _ _ _
  have hval : ∀ (j : Nat) t v, Try.f4.params[j]? = some t → args[j]? = some v → Value.okWide Try.prog W .any base t v := hval0
  have hW' := hW
  obtain ⟨p, q, hA0, hV, rfl, _, _⟩ := hW
  have hA : DataW.TrodAll enc Try.prog W 0 (fun _ => true) true Try.f4.params.toList args.toList ds p := hA0
  rw [Try.params4] at hA hval
  obtain ⟨rfl, rfl⟩ := trodVars_none hV
  obtain ⟨v0, vs0, d0, ds0, p0, q0, hargs, rfl, rfl, h0, r0⟩ := trodAll_cons hA
  obtain ⟨v1, vs1, d1, ds1, p1, q1, rfl, rfl, rfl, h1, r1⟩ := trodAll_cons r0
  obtain ⟨rfl, rfl, rfl⟩ := trodAll_nil r1
  obtain rfl : args = #[v0, v1] := by cases args; simp_all
  obtain ⟨a0, e0, w0⟩ := arg_sg (hval 0 40 v0 rfl rfl) h0
  obtain ⟨a1, len1, cap1, rfl⟩ := okWide_slice Try.underlying25 (hval 1 25 v1 rfl rfl)
  clear hA0 hval0
  simp only [List.append_nil] at hW'
  have hlt0 : ∀ x ∈ p0, x.block < W.heap.size := fun x hx => by simpa using hW'.lt x (by simp [hx])
  have hlt1 : ∀ x ∈ p1, x.block < W.heap.size := fun x hx => by simpa using hW'.lt x (by simp [hx])
  subst e0
  obtain ⟨l1, hl1, hc1, hm1, hb1⟩ := arg_bytes h1
  subst hl1
  refine (walk a0 a1 l1 cap1 W w0 hm1 hb1).mono fun e W' ⟨he, bel⟩ => ?_
  subst he
  exact ⟨_, rfl, _, _, _, [], _, [], hW', trodAll_mk1 (shut_bool Try.underlying4 _), (trodAll_cons_mk (Below.trod laidOut (by kernel_rfl) (of_decide_eq_true (by kernel_rfl)) h0 bel hlt0) (trodAll_cons_mk (Below.trod laidOut (by kernel_rfl) (of_decide_eq_true (by kernel_rfl)) h1 bel hlt1) trodAll_mk0)), rfl, bel.frame _, fun h => by cases h⟩

/-- the statement -/
theorem proved : Rows.CodeSagasSaid :=
  OpenClaim.holds_of_wide 4 Try.f4 rfl rfl rfl rfl rfl rfl rfl ⟨rfl, rfl, rfl, rfl, rfl⟩ rfl rfl rfl rfl rfl (by kernel_rfl) Try.func4 (by kernel_rfl)
    (of_decide_eq_true (by kernel_rfl)) (by unfold Func.isWrapper; first | (rw [if_pos (by decide +kernel)]; kernel_rfl) | (rw [if_neg (by decide +kernel)]; exact ⟨rfl, rfl⟩))
    (fun os started H enc _ => lifted os started H enc)
#print axioms proved

end Go.Proofs.Ytihkadbcjeohjaa.codeSagas
