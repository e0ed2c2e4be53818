/-
  The document's ReadEvent.
  Conditions: the bytes are at most 2^40.
-/
import Derived.Test.YtihkadbcjeohjaaCodRefs3
import Derived.Test.YtihkadbcjeohjaaCodRead
import Derived.Test.YtihkadbcjeohjaaCodTaken
import Derived.StillTailTactics
import Derived.Test.YtihkadbcjeohjaaCodTEvent
import Derived.Test.YtihkadbcjeohjaaCodRGood
namespace Go.Proofs.Ytihkadbcjeohjaa.Co
open Go.RowKit
open Go.Proofs.Ytihkadbcjeohjaa.El
open Go.Proofs.Ytihkadbcjeohjaa.Df
open Go.Proofs.Ytihkadbcjeohjaa.Bo (P Made ret_int ret_bool)
open Go.Proofs.Ytihkadbcjeohjaa.Sa (Sg Rp)

/-- the document's reader -/
def stQ (B : ByteArray) (s : Ps) (n : Int) (S : ByteArray) (y : Bool) : Array Value := #[.string B, .int .i64 (s.p : Nat), .int .i64 (s.e : Nat), .int .i64 (s.o : Nat), .int .i64 n, .string S, .bool y]
/-- a place within the bytes -/
structure Ok (B : ByteArray) (s : Ps) : Prop where
  le : s.p ≤ B.size
  sm : B.size ≤ 1099511627776
  no : s.e = 0 → s.o = 0
theorem nxO_zero {p o e e0 : Nat} (h : e = 0 → o = 0) (hz : nxE e e0 = 0) : nxO p o e e0 = 0 := by
  obtain ⟨h1, h2⟩ := nxE_zero hz
  unfold nxO
  rw [if_neg (by omega)]
  exact h h1
section
variable {B : ByteArray} {s : Ps}
theorem nxP_le {p e n e0 m : Nat} (h : p ≤ m) (h2 : e0 = 0 → p + n ≤ m) : nxP p e n e0 ≤ m := by
  unfold nxP
  split
  · next h3 => exact h2 h3.2
  · exact h
theorem Ok.num (h : Ok B s) : Ok B (numS B.data.toList s) := ⟨nxP_le h.le (fun he => by have := numE_len he; rw [size_eq] at this; exact this), h.sm, nxO_zero h.no⟩
theorem Ok.txt (h : Ok B s) : Ok B (txtS B.data.toList s) := ⟨nxP_le h.le (fun he => by have := (txt_zero (l := B.data.toList) (s := s) he).2.2; rw [size_eq] at this; omega), h.sm, nxO_zero h.no⟩
theorem Ok.flg (h : Ok B s) : Ok B (flgS B.data.toList s) := ⟨nxP_le h.le (fun he => by
  unfold flagE at he
  by_cases h3 : s.p < B.data.toList.length
  · rw [size_eq] at h3; omega
  · rw [dif_neg h3] at he; cases he), h.sm, nxO_zero h.no⟩
theorem Ok.cnt (h : Ok B s) : Ok B (cntS B.data.toList s) := ⟨nxP_le h.le (fun he => by have := numE_len (cnt_zero (l := B.data.toList) (s := s) he).1; rw [size_eq] at this; exact this), h.sm, nxO_zero h.no⟩
theorem Ok.plan (h : Ok B s) : Ok B (planS B.data.toList s) := h.num.num.num.num
theorem Ok.zero (h : B.size ≤ 1099511627776) : Ok B (at0 0) := ⟨Nat.zero_le _, h, fun _ => rfl⟩
end
theorem stcell {w : World} {g : Nat} {B : ByteArray} {s : Ps} {n : Int} {S : ByteArray} {y : Bool} (h : Box w g 85 #[.string B, .int .i64 (s.p : Nat), .int .i64 (s.e : Nat), .int .i64 (s.o : Nat), .int .i64 n, .string S, .bool y]) :
    w.cell? ⟨g, 0, none⟩ = some (.string B) ∧ w.cell? ⟨g, 1, none⟩ = some (.int .i64 (s.p : Nat)) ∧ w.cell? ⟨g, 2, none⟩ = some (.int .i64 (s.e : Nat)) ∧ w.cell? ⟨g, 3, none⟩ = some (.int .i64 (s.o : Nat)) ∧
      w.cell? ⟨g, 4, none⟩ = some (.int .i64 n) ∧ w.cell? ⟨g, 5, none⟩ = some (.string S) ∧ w.cell? ⟨g, 6, none⟩ = some (.bool y) := ⟨h.cell 0, h.cell 1, h.cell 2, h.cell 3, h.cell 4, h.cell 5, h.cell 6⟩
theorem size_st (B : ByteArray) (p e o n : Int) (S : ByteArray) (y : Bool) : (Try.prog.info? 85).map (·.size) = some (#[.string B, .int .i64 p, .int .i64 e, .int .i64 o, .int .i64 n, .string S, .bool y] : Array Value).size := by
  show (Try.prog.info? 85).map (·.size) = some 7
  kernel_rfl
set_option maxHeartbeats 2000000 in
set_option maxRecDepth 100000 in
theorem takeN_s (B : ByteArray) (s : Ps) (n : Int) (S : ByteArray) (y : Bool) (w : World) (hk : Ok B s) :
    Calls Try.prog 46 #[.agg (stQ B s n S y)] w fun e w' => e = .returned (.agg (stQ B (numS B.data.toList s) (numQ B.data.toList s : Nat) S y)) ∧ Below w.heap.size w w' := by
  have HT : Hid (∀ W, Calls Try.prog 77 #[.agg #[.string B, .int .i64 (s.p : Nat), .int .i64 (s.e : Nat), .int .i64 (s.o : Nat), .int .i64 n, .string S, .bool y]] W fun e w' => e = .returned (.tuple #[.agg #[.string B, .int .i64 ((numS B.data.toList s).p : Nat), .int .i64 ((numS B.data.toList s).e : Nat), .int .i64 ((numS B.data.toList s).o : Nat), .int .i64 n, .string S, .bool y], .int .i64 (numQ B.data.toList s : Nat)]) ∧ Below W.heap.size W w') := Lib.hid fun W => xtake_any n S y B s.p s.e s.o W hk.le hk.sm hk.no
  unfold stQ
  obtain ⟨t, ht⟩ : ∃ t, t = numS B.data.toList s := ⟨_, rfl⟩
  rw [← ht] at HT ⊢
  clear ht hk
  obtain ⟨q, hq⟩ : ∃ q, q = (numQ B.data.toList s : Int) := ⟨_, rfl⟩
  rw [← hq] at HT ⊢
  clear hq
  go_enter Try.func46, Try.ntmps46
  go_wp2_with fail
  refine (HT.out _).mono ?_
  rintro e w1 ⟨rfl, b1⟩
  have hB2 := Lib.hid ((Box.new2 w _ _ _).below b1 (by simp))
  have hW := Lib.hid ((below2 w _ _).trans (b1.mono (by simp; omega)))
  have hz := hW.out.size
  have hz2 := hB2.out.lt
  clear b1
  go_wp2_with (refine wpList_store_row rfl 85 (.tmp 2) (.tmp 12) rfl (w.heap.size + 1) 85 _ #[.string B, .int .i64 (t.p : Nat), .int .i64 (t.e : Nat), .int .i64 (t.o : Nat), .int .i64 q, .string S, .bool y] rfl rfl (hB2.out.alloc _) (size_st _ _ _ _ _ _ _) rfl (by simp [Value.oneCell']) ?_)
  refine bodyPost_ret (results_cell_row rfl _ _ (w.heap.size + 1) 85 #[.string B, .int .i64 (t.p : Nat), .int .i64 (t.e : Nat), .int .i64 (t.o : Nat), .int .i64 q, .string S, .bool y] (0, 0) _ rfl (box_set (hB2.out.alloc _) _) Try.underlying85 rfl (size_st _ _ _ _ _ _ _)) rfl ⟨rfl, ?_⟩
  exact below_putRow (hW.out.alloc hz _) (by omega) _
set_option maxHeartbeats 2000000 in
set_option maxRecDepth 100000 in
theorem textS_s (B : ByteArray) (s : Ps) (n : Int) (S : ByteArray) (y : Bool) (w : World) (hk : Ok B s) :
    Calls Try.prog 47 #[.agg (stQ B s n S y), .int .i64 256] w fun e w' => e = .returned (.agg (stQ B (txtS B.data.toList s) n (txtQ B.data.toList s) y)) ∧ Below w.heap.size w w' := by
  have HT : Hid (∀ W, Calls Try.prog 78 #[.agg #[.string B, .int .i64 (s.p : Nat), .int .i64 (s.e : Nat), .int .i64 (s.o : Nat), .int .i64 n, .string S, .bool y], .int .i64 256] W fun e w' => e = .returned (.tuple #[.agg #[.string B, .int .i64 ((txtS B.data.toList s).p : Nat), .int .i64 ((txtS B.data.toList s).e : Nat), .int .i64 ((txtS B.data.toList s).o : Nat), .int .i64 n, .string S, .bool y], .string (txtQ B.data.toList s)]) ∧ Below W.heap.size W w') := Lib.hid fun W => xtext_any n S y B s.p s.e s.o 256 W hk.le hk.sm hk.no
  unfold stQ
  obtain ⟨t, ht⟩ : ∃ t, t = txtS B.data.toList s := ⟨_, rfl⟩
  rw [← ht] at HT ⊢
  clear ht hk
  obtain ⟨q, hq⟩ : ∃ q, q = txtQ B.data.toList s := ⟨_, rfl⟩
  rw [← hq] at HT ⊢
  clear hq
  go_enter Try.func47, Try.ntmps47
  go_wp2_with fail
  refine (HT.out _).mono ?_
  rintro e w1 ⟨rfl, b1⟩
  have hB2 := Lib.hid ((Box.new2 w _ _ _).below b1 (by simp))
  have hW := Lib.hid ((below2 w _ _).trans (b1.mono (by simp; omega)))
  have hz := hW.out.size
  have hz2 := hB2.out.lt
  clear b1
  go_wp2_with (refine wpList_store_row rfl 85 (.tmp 4) (.tmp 15) rfl (w.heap.size + 1) 85 _ #[.string B, .int .i64 (t.p : Nat), .int .i64 (t.e : Nat), .int .i64 (t.o : Nat), .int .i64 n, .string q, .bool y] rfl rfl (hB2.out.alloc _) (size_st _ _ _ _ _ _ _) rfl (by simp [Value.oneCell']) ?_)
  refine bodyPost_ret (results_cell_row rfl _ _ (w.heap.size + 1) 85 #[.string B, .int .i64 (t.p : Nat), .int .i64 (t.e : Nat), .int .i64 (t.o : Nat), .int .i64 n, .string q, .bool y] (0, 0) _ rfl (box_set (hB2.out.alloc _) _) Try.underlying85 rfl (size_st _ _ _ _ _ _ _)) rfl ⟨rfl, ?_⟩
  exact below_putRow (hW.out.alloc hz _) (by omega) _
set_option maxHeartbeats 2000000 in
set_option maxRecDepth 100000 in
theorem flagY_s (B : ByteArray) (s : Ps) (n : Int) (S : ByteArray) (y : Bool) (w : World) (hk : Ok B s) :
    Calls Try.prog 48 #[.agg (stQ B s n S y)] w fun e w' => e = .returned (.agg (stQ B (flgS B.data.toList s) n S (flgQ B.data.toList s))) ∧ Below w.heap.size w w' := by
  have HT : Hid (∀ W, Calls Try.prog 79 #[.agg #[.string B, .int .i64 (s.p : Nat), .int .i64 (s.e : Nat), .int .i64 (s.o : Nat), .int .i64 n, .string S, .bool y]] W fun e w' => e = .returned (.tuple #[.agg #[.string B, .int .i64 ((flgS B.data.toList s).p : Nat), .int .i64 ((flgS B.data.toList s).e : Nat), .int .i64 ((flgS B.data.toList s).o : Nat), .int .i64 n, .string S, .bool y], .bool (flgQ B.data.toList s)]) ∧ Below W.heap.size W w') := Lib.hid fun W => xflag_any n S y B s.p s.e s.o W hk.le hk.sm hk.no
  unfold stQ
  obtain ⟨t, ht⟩ : ∃ t, t = flgS B.data.toList s := ⟨_, rfl⟩
  rw [← ht] at HT ⊢
  clear ht hk
  obtain ⟨q, hq⟩ : ∃ q, q = flgQ B.data.toList s := ⟨_, rfl⟩
  rw [← hq] at HT ⊢
  clear hq
  go_enter Try.func48, Try.ntmps48
  go_wp2_with fail
  refine (HT.out _).mono ?_
  rintro e w1 ⟨rfl, b1⟩
  have hB2 := Lib.hid ((Box.new2 w _ _ _).below b1 (by simp))
  have hW := Lib.hid ((below2 w _ _).trans (b1.mono (by simp; omega)))
  have hz := hW.out.size
  have hz2 := hB2.out.lt
  clear b1
  go_wp2_with (refine wpList_store_row rfl 85 (.tmp 2) (.tmp 12) rfl (w.heap.size + 1) 85 _ #[.string B, .int .i64 (t.p : Nat), .int .i64 (t.e : Nat), .int .i64 (t.o : Nat), .int .i64 n, .string S, .bool q] rfl rfl (hB2.out.alloc _) (size_st _ _ _ _ _ _ _) rfl (by simp [Value.oneCell']) ?_)
  refine bodyPost_ret (results_cell_row rfl _ _ (w.heap.size + 1) 85 #[.string B, .int .i64 (t.p : Nat), .int .i64 (t.e : Nat), .int .i64 (t.o : Nat), .int .i64 n, .string S, .bool q] (0, 0) _ rfl (box_set (hB2.out.alloc _) _) Try.underlying85 rfl (size_st _ _ _ _ _ _ _)) rfl ⟨rfl, ?_⟩
  exact below_putRow (hW.out.alloc hz _) (by omega) _
theorem count_s (B : ByteArray) (s : Ps) (n : Int) (S : ByteArray) (y : Bool) (w : World) (hk : Ok B s) :
    Calls Try.prog 65 #[.agg (stQ B s n S y), .int .i64 32, .int .i64 96] w fun e w' => e = .returned (.tuple #[.agg (stQ B (cntS B.data.toList s) n S y), .int .i64 (cntQ B.data.toList s : Nat)]) ∧ Below w.heap.size w w' :=
  xcount_any n S y B s.p s.e s.o 32 96 w hk.le hk.sm hk.no (by omega) (by omega)
theorem endR_s (B : ByteArray) (s : Ps) (n : Int) (S : ByteArray) (y : Bool) (w : World) (hk : Ok B s) :
    Calls Try.prog 36 #[.agg (stQ B s n S y)] w fun e w' => e = .returned (.agg (stQ B (endS B.data.toList s) n S y)) ∧ Below w.heap.size w w' :=
  xend_any n S y B s.p s.e s.o w hk.no
end Go.Proofs.Ytihkadbcjeohjaa.Co

namespace Go.Proofs.Ytihkadbcjeohjaa.Co
open Go.RowKit
open Go.Proofs.Ytihkadbcjeohjaa.El
open Go.Proofs.Ytihkadbcjeohjaa.Df
open Go.Proofs.Ytihkadbcjeohjaa.Bo (P Made ret_int ret_bool)
open Go.Proofs.Ytihkadbcjeohjaa.Sa (Sg Rp)

theorem box_off {u : World} {g g' : Nat} {t : TypeId} {cs : Array Value} (h : Box u g t cs) (hne : g ≠ g') (cs' : Array Value) : Box (u.setRow g' cs') g t cs := (setRow_other u g' g cs' hne).trans h
theorem results_cc {fn : Func} {p q : Tmp} {ty ty' : TypeId} (h : fn.results = #[.cell p ty, .cell q ty']) (tmps : Array Value) (P : Program) (w : World) :
    (results fn tmps).run P w = ((asAddr (tmps.getD p undef)).run P w).andThen fun a w₁ => ((loadVar ty a).run P w₁).andThen fun v w₂ => ((asAddr (tmps.getD q undef)).run P w₂).andThen fun b w₃ => ((loadVar ty' b).run P w₃).andThen fun x w₄ => .ok (.tuple #[v, x]) w₄ := by
  simp only [results, h]
  simp [Sem.run_bind, Result.andThen]
  repeat' (split; · rfl)
  all_goals rfl
theorem res_cc {fn : Func} {p q : Tmp} {ty ty' : TypeId} {fs fs' : Array Field} (h : fn.results = #[.cell p ty, .cell q ty']) (tmps : Array Value) (w : World) (g g' : Nat) (cs cs' : Array Value) (hu : Try.prog.underlying ty = some (.struct fs)) (hu' : Try.prog.underlying ty' = some (.struct fs'))
    (hi : (Try.prog.info? ty).map (·.size) = some cs.size) (hi' : (Try.prog.info? ty').map (·.size) = some cs'.size)
    (hp : tmps.getD p undef = .pointer (some ⟨g, 0, none⟩)) (hq : tmps.getD q undef = .pointer (some ⟨g', 0, none⟩)) (hg : Box w g ty cs) (hg' : Box w g' ty' cs') : (results fn tmps).run Try.prog w = .ok (.tuple #[.agg cs, .agg cs']) w := by
  rw [results_cc h, hp, hq]
  simp only [asAddr, Sem.run_pure, Result.andThen_ok, run_loadVar_row w g _ ty _ _ _ hg hu rfl hi, run_loadVar_row w g' _ ty' _ _ _ hg' hu' rfl hi']
set_option maxHeartbeats 8000000 in
set_option maxRecDepth 100000 in
theorem takePlan_s (B : ByteArray) (s : Ps) (n : Int) (S : ByteArray) (y : Bool) (w : World) (hk : Ok B s) :
    Calls Try.prog 66 #[.agg (stQ B s n S y)] w fun e w' => (∃ n', e = .returned (.tuple #[.agg (stQ B (planS B.data.toList s) n' S y), .agg #[.int .i64 (planQ B.data.toList s).r, .int .i64 (planQ B.data.toList s).b, .int .i64 (planQ B.data.toList s).f, .int .i64 (planQ B.data.toList s).c]])) ∧ Below w.heap.size w w' := by
  unfold stQ
  obtain ⟨hx0, hx1, hx2, hx3⟩ := box4 w 85 85 65 65 #[.string B, .int .i64 (s.p : Nat), .int .i64 (s.e : Nat), .int .i64 (s.o : Nat), .int .i64 n, .string S, .bool y] #[.string ⟨#[]⟩, .int .i64 0, .int .i64 0, .int .i64 0, .int .i64 0, .string ⟨#[]⟩, .bool false] #[.int .i64 0, .int .i64 0, .int .i64 0, .int .i64 0] #[.int .i64 0, .int .i64 0, .int .i64 0, .int .i64 0]
  have HS0 := Lib.hid hx0
  have HO0_0 := Lib.hid hx1
  have HO1_0 := Lib.hid hx2
  have HX0 := Lib.hid hx3
  have HB0 : Hid (Below w.heap.size w ((((w.alloc (.cells #[.string B, .int .i64 (s.p : Nat), .int .i64 (s.e : Nat), .int .i64 (s.o : Nat), .int .i64 n, .string S, .bool y] 85)).alloc (.cells #[.string ⟨#[]⟩, .int .i64 0, .int .i64 0, .int .i64 0, .int .i64 0, .string ⟨#[]⟩, .bool false] 85)).alloc (.cells #[.int .i64 0, .int .i64 0, .int .i64 0, .int .i64 0] 65)).alloc (.cells #[.int .i64 0, .int .i64 0, .int .i64 0, .int .i64 0] 65))) := Lib.hid (((((Below.refl w.heap.size w).alloc (Nat.le_refl _) _).alloc (by simp) _).alloc (by simp; omega) _).alloc (by simp; omega) _)
  clear hx0 hx1 hx2 hx3
  obtain ⟨s1, hs1⟩ : ∃ t, t = numS B.data.toList (s) := ⟨_, rfl⟩
  obtain ⟨q1, hq1⟩ : ∃ q, q = numQ B.data.toList (s) := ⟨_, rfl⟩
  have HT1 : Hid (∀ W, Calls Try.prog 46 #[.agg #[.string B, .int .i64 ((s).p : Nat), .int .i64 ((s).e : Nat), .int .i64 ((s).o : Nat), .int .i64 n, .string S, .bool y]] W fun e w2 => e = .returned (.agg #[.string B, .int .i64 ((s1).p : Nat), .int .i64 ((s1).e : Nat), .int .i64 ((s1).o : Nat), .int .i64 (q1 : Nat), .string S, .bool y]) ∧ Below W.heap.size W w2) := Lib.hid fun W => by rw [hs1, hq1]; exact takeN_s B (s) _ _ _ W (hk)
  have ok1 : Ok B s1 := by rw [hs1]; exact Ok.num (hk)
  obtain ⟨s2, hs2⟩ : ∃ t, t = numS B.data.toList (s1) := ⟨_, rfl⟩
  obtain ⟨q2, hq2⟩ : ∃ q, q = numQ B.data.toList (s1) := ⟨_, rfl⟩
  have HT2 : Hid (∀ W, Calls Try.prog 46 #[.agg #[.string B, .int .i64 ((s1).p : Nat), .int .i64 ((s1).e : Nat), .int .i64 ((s1).o : Nat), .int .i64 (q1 : Nat), .string S, .bool y]] W fun e w2 => e = .returned (.agg #[.string B, .int .i64 ((s2).p : Nat), .int .i64 ((s2).e : Nat), .int .i64 ((s2).o : Nat), .int .i64 (q2 : Nat), .string S, .bool y]) ∧ Below W.heap.size W w2) := Lib.hid fun W => by rw [hs2, hq2]; exact takeN_s B (s1) _ _ _ W (ok1)
  have ok2 : Ok B s2 := by rw [hs2]; exact Ok.num (ok1)
  obtain ⟨s3, hs3⟩ : ∃ t, t = numS B.data.toList (s2) := ⟨_, rfl⟩
  obtain ⟨q3, hq3⟩ : ∃ q, q = numQ B.data.toList (s2) := ⟨_, rfl⟩
  have HT3 : Hid (∀ W, Calls Try.prog 46 #[.agg #[.string B, .int .i64 ((s2).p : Nat), .int .i64 ((s2).e : Nat), .int .i64 ((s2).o : Nat), .int .i64 (q2 : Nat), .string S, .bool y]] W fun e w2 => e = .returned (.agg #[.string B, .int .i64 ((s3).p : Nat), .int .i64 ((s3).e : Nat), .int .i64 ((s3).o : Nat), .int .i64 (q3 : Nat), .string S, .bool y]) ∧ Below W.heap.size W w2) := Lib.hid fun W => by rw [hs3, hq3]; exact takeN_s B (s2) _ _ _ W (ok2)
  have ok3 : Ok B s3 := by rw [hs3]; exact Ok.num (ok2)
  obtain ⟨s4, hs4⟩ : ∃ t, t = numS B.data.toList (s3) := ⟨_, rfl⟩
  obtain ⟨q4, hq4⟩ : ∃ q, q = numQ B.data.toList (s3) := ⟨_, rfl⟩
  have HT4 : Hid (∀ W, Calls Try.prog 46 #[.agg #[.string B, .int .i64 ((s3).p : Nat), .int .i64 ((s3).e : Nat), .int .i64 ((s3).o : Nat), .int .i64 (q3 : Nat), .string S, .bool y]] W fun e w2 => e = .returned (.agg #[.string B, .int .i64 ((s4).p : Nat), .int .i64 ((s4).e : Nat), .int .i64 ((s4).o : Nat), .int .i64 (q4 : Nat), .string S, .bool y]) ∧ Below W.heap.size W w2) := Lib.hid fun W => by rw [hs4, hq4]; exact takeN_s B (s3) _ _ _ W (ok3)
  have ok4 : Ok B s4 := by rw [hs4]; exact Ok.num (ok3)
  have HG : Hid (planS B.data.toList s = s4 ∧ planQ B.data.toList s = ⟨q1, q2, q3, q4⟩) := Lib.hid (by subst_vars; exact ⟨rfl, rfl⟩)
  have Hok4 := Lib.hid ok4
  clear ok4 hs4 hq4
  have Hok3 := Lib.hid ok3
  clear ok3 hs3 hq3
  have Hok2 := Lib.hid ok2
  clear ok2 hs2 hq2
  have Hok1 := Lib.hid ok1
  clear ok1 hs1 hq1
  rw [HG.out.1, HG.out.2]
  clear HG hk
  go_enter Try.func66, Try.ntmps66
  go_upto_region 2 with fail
  generalize (((w.alloc (.cells #[.string B, .int .i64 (s.p : Nat), .int .i64 (s.e : Nat), .int .i64 (s.o : Nat), .int .i64 n, .string S, .bool y] 85)).alloc (.cells #[.string ⟨#[]⟩, .int .i64 0, .int .i64 0, .int .i64 0, .int .i64 0, .string ⟨#[]⟩, .bool false] 85)).alloc (.cells #[.int .i64 0, .int .i64 0, .int .i64 0, .int .i64 0] 65)).alloc (.cells #[.int .i64 0, .int .i64 0, .int .i64 0, .int .i64 0] 65) = W0 at *
  obtain ⟨e0, e1, e2, e3, e4, e5, e6⟩ := stcell HS0.out
  go_wp2_with fail
  refine (HT1.out _).mono ?_
  rintro e w1 ⟨rfl, hb⟩
  have HR1 := Lib.hid (HS0.out.below hb HS0.out.lt)
  have HU1 := Lib.hid (HX0.out.below hb HX0.out.lt)
  have HD1 := Lib.hid (HB0.out.trans (hb.mono HB0.out.size))
  have HV0_1 := Lib.hid (HO0_0.out.below hb HO0_0.out.lt)
  have HV1_1 := Lib.hid (HO1_0.out.below hb HO1_0.out.lt)
  clear hb HS0 HX0 HB0 HO0_0 HO1_0 HT1
  clear e0 e1 e2 e3 e4 e5 e6
  go_wp2_with (refine wpList_store_row rfl 85 (.tmp 1) (.tmp 7) rfl (w.heap.size) 85 _ #[.string B, .int .i64 ((s1).p : Nat), .int .i64 ((s1).e : Nat), .int .i64 ((s1).o : Nat), .int .i64 (q1 : Nat), .string S, .bool y] rfl rfl HR1.out (size_st _ _ _ _ _ _ _) rfl (by simp [Value.oneCell']) ?_; have HI1 := Lib.hid (box_set HR1.out #[.string B, .int .i64 ((s1).p : Nat), .int .i64 ((s1).e : Nat), .int .i64 ((s1).o : Nat), .int .i64 (q1 : Nat), .string S, .bool y]); have HY1 := Lib.hid (box_off HU1.out (show w.heap.size + 3 ≠ w.heap.size by omega) #[.string B, .int .i64 ((s1).p : Nat), .int .i64 ((s1).e : Nat), .int .i64 ((s1).o : Nat), .int .i64 (q1 : Nat), .string S, .bool y]); have HC1 := Lib.hid (below_putRow HD1.out (show w.heap.size ≤ w.heap.size by omega) #[.string B, .int .i64 ((s1).p : Nat), .int .i64 ((s1).e : Nat), .int .i64 ((s1).o : Nat), .int .i64 (q1 : Nat), .string S, .bool y]); have HP0_1 := Lib.hid (box_off HV0_1.out (show w.heap.size + 1 ≠ w.heap.size by omega) #[.string B, .int .i64 ((s1).p : Nat), .int .i64 ((s1).e : Nat), .int .i64 ((s1).o : Nat), .int .i64 (q1 : Nat), .string S, .bool y]); have HP1_1 := Lib.hid (box_off HV1_1.out (show w.heap.size + 2 ≠ w.heap.size by omega) #[.string B, .int .i64 ((s1).p : Nat), .int .i64 ((s1).e : Nat), .int .i64 ((s1).o : Nat), .int .i64 (q1 : Nat), .string S, .bool y]); clear HR1 HU1 HD1 HV0_1 HV1_1; generalize w1.setRow (w.heap.size) #[.string B, .int .i64 ((s1).p : Nat), .int .i64 ((s1).e : Nat), .int .i64 ((s1).o : Nat), .int .i64 (q1 : Nat), .string S, .bool y] = u1 at *; obtain ⟨d0, d1, d2, d3, d4, d5, d6⟩ := stcell (s := s1) HI1.out; have xo := HY1.out.cell 0; simp only [List.getElem?_toArray, List.getElem?_cons_zero] at xo; have xf := HY1.out.frozen 0; have HS1 := Lib.hid (HI1.out.far (p := ⟨w.heap.size + 3, 0, none⟩) (show w.heap.size ≠ w.heap.size + 3 by omega) (.int .i64 (q1 : Nat))); have HX1 : Hid (Box (u1.setCell ⟨w.heap.size + 3, 0, none⟩ (.int .i64 (q1 : Nat))) (w.heap.size + 3) 65 #[.int .i64 (q1 : Nat), .int .i64 0, .int .i64 0, .int .i64 0]) := Lib.hid (HY1.out.put 0 (.int .i64 (q1 : Nat))); have HB1 := Lib.hid (HC1.out.setCell (p := ⟨w.heap.size + 3, 0, none⟩) (show w.heap.size ≤ w.heap.size + 3 by omega) (.int .i64 (q1 : Nat))); have HO0_1 := Lib.hid (HP0_1.out.far (p := ⟨w.heap.size + 3, 0, none⟩) (show w.heap.size + 1 ≠ w.heap.size + 3 by omega) (.int .i64 (q1 : Nat))); have HO1_1 := Lib.hid (HP1_1.out.far (p := ⟨w.heap.size + 3, 0, none⟩) (show w.heap.size + 2 ≠ w.heap.size + 3 by omega) (.int .i64 (q1 : Nat))); obtain ⟨e0, e1, e2, e3, e4, e5, e6⟩ := stcell (s := s1) HS1.out)
  clear d0 d1 d2 d3 d4 d5 d6 xo xf e0 e1 e2 e3 e4 e5 e6 HI1 HY1 HC1 HP0_1 HP1_1
  generalize u1.setCell ⟨w.heap.size + 3, 0, none⟩ (.int .i64 (q1 : Nat)) = V1 at *
  refine (HT2.out _).mono ?_
  rintro e w2 ⟨rfl, hb⟩
  have HR2 := Lib.hid (HS1.out.below hb HS1.out.lt)
  have HU2 := Lib.hid (HX1.out.below hb HX1.out.lt)
  have HD2 := Lib.hid (HB1.out.trans (hb.mono HB1.out.size))
  have HV0_2 := Lib.hid (HO0_1.out.below hb HO0_1.out.lt)
  have HV1_2 := Lib.hid (HO1_1.out.below hb HO1_1.out.lt)
  clear hb HS1 HX1 HB1 HO0_1 HO1_1 HT2
  go_wp2_with (refine wpList_store_row rfl 85 (.tmp 1) (.tmp 12) rfl (w.heap.size) 85 _ #[.string B, .int .i64 ((s2).p : Nat), .int .i64 ((s2).e : Nat), .int .i64 ((s2).o : Nat), .int .i64 (q2 : Nat), .string S, .bool y] rfl rfl HR2.out (size_st _ _ _ _ _ _ _) rfl (by simp [Value.oneCell']) ?_; have HI2 := Lib.hid (box_set HR2.out #[.string B, .int .i64 ((s2).p : Nat), .int .i64 ((s2).e : Nat), .int .i64 ((s2).o : Nat), .int .i64 (q2 : Nat), .string S, .bool y]); have HY2 := Lib.hid (box_off HU2.out (show w.heap.size + 3 ≠ w.heap.size by omega) #[.string B, .int .i64 ((s2).p : Nat), .int .i64 ((s2).e : Nat), .int .i64 ((s2).o : Nat), .int .i64 (q2 : Nat), .string S, .bool y]); have HC2 := Lib.hid (below_putRow HD2.out (show w.heap.size ≤ w.heap.size by omega) #[.string B, .int .i64 ((s2).p : Nat), .int .i64 ((s2).e : Nat), .int .i64 ((s2).o : Nat), .int .i64 (q2 : Nat), .string S, .bool y]); have HP0_2 := Lib.hid (box_off HV0_2.out (show w.heap.size + 1 ≠ w.heap.size by omega) #[.string B, .int .i64 ((s2).p : Nat), .int .i64 ((s2).e : Nat), .int .i64 ((s2).o : Nat), .int .i64 (q2 : Nat), .string S, .bool y]); have HP1_2 := Lib.hid (box_off HV1_2.out (show w.heap.size + 2 ≠ w.heap.size by omega) #[.string B, .int .i64 ((s2).p : Nat), .int .i64 ((s2).e : Nat), .int .i64 ((s2).o : Nat), .int .i64 (q2 : Nat), .string S, .bool y]); clear HR2 HU2 HD2 HV0_2 HV1_2; generalize w2.setRow (w.heap.size) #[.string B, .int .i64 ((s2).p : Nat), .int .i64 ((s2).e : Nat), .int .i64 ((s2).o : Nat), .int .i64 (q2 : Nat), .string S, .bool y] = u2 at *; obtain ⟨d0, d1, d2, d3, d4, d5, d6⟩ := stcell (s := s2) HI2.out; have xo := HY2.out.cell 1; simp only [List.getElem?_toArray, List.getElem?_cons_zero, List.getElem?_cons_succ] at xo; have xf := HY2.out.frozen 1; have HS2 := Lib.hid (HI2.out.far (p := ⟨w.heap.size + 3, 1, none⟩) (show w.heap.size ≠ w.heap.size + 3 by omega) (.int .i64 (q2 : Nat))); have HX2 : Hid (Box (u2.setCell ⟨w.heap.size + 3, 1, none⟩ (.int .i64 (q2 : Nat))) (w.heap.size + 3) 65 #[.int .i64 (q1 : Nat), .int .i64 (q2 : Nat), .int .i64 0, .int .i64 0]) := Lib.hid (HY2.out.put 1 (.int .i64 (q2 : Nat))); have HB2 := Lib.hid (HC2.out.setCell (p := ⟨w.heap.size + 3, 1, none⟩) (show w.heap.size ≤ w.heap.size + 3 by omega) (.int .i64 (q2 : Nat))); have HO0_2 := Lib.hid (HP0_2.out.far (p := ⟨w.heap.size + 3, 1, none⟩) (show w.heap.size + 1 ≠ w.heap.size + 3 by omega) (.int .i64 (q2 : Nat))); have HO1_2 := Lib.hid (HP1_2.out.far (p := ⟨w.heap.size + 3, 1, none⟩) (show w.heap.size + 2 ≠ w.heap.size + 3 by omega) (.int .i64 (q2 : Nat))); obtain ⟨e0, e1, e2, e3, e4, e5, e6⟩ := stcell (s := s2) HS2.out)
  clear d0 d1 d2 d3 d4 d5 d6 xo xf e0 e1 e2 e3 e4 e5 e6 HI2 HY2 HC2 HP0_2 HP1_2
  generalize u2.setCell ⟨w.heap.size + 3, 1, none⟩ (.int .i64 (q2 : Nat)) = V2 at *
  refine (HT3.out _).mono ?_
  rintro e w3 ⟨rfl, hb⟩
  have HR3 := Lib.hid (HS2.out.below hb HS2.out.lt)
  have HU3 := Lib.hid (HX2.out.below hb HX2.out.lt)
  have HD3 := Lib.hid (HB2.out.trans (hb.mono HB2.out.size))
  have HV0_3 := Lib.hid (HO0_2.out.below hb HO0_2.out.lt)
  have HV1_3 := Lib.hid (HO1_2.out.below hb HO1_2.out.lt)
  clear hb HS2 HX2 HB2 HO0_2 HO1_2 HT3
  go_wp2_with (refine wpList_store_row rfl 85 (.tmp 1) (.tmp 17) rfl (w.heap.size) 85 _ #[.string B, .int .i64 ((s3).p : Nat), .int .i64 ((s3).e : Nat), .int .i64 ((s3).o : Nat), .int .i64 (q3 : Nat), .string S, .bool y] rfl rfl HR3.out (size_st _ _ _ _ _ _ _) rfl (by simp [Value.oneCell']) ?_; have HI3 := Lib.hid (box_set HR3.out #[.string B, .int .i64 ((s3).p : Nat), .int .i64 ((s3).e : Nat), .int .i64 ((s3).o : Nat), .int .i64 (q3 : Nat), .string S, .bool y]); have HY3 := Lib.hid (box_off HU3.out (show w.heap.size + 3 ≠ w.heap.size by omega) #[.string B, .int .i64 ((s3).p : Nat), .int .i64 ((s3).e : Nat), .int .i64 ((s3).o : Nat), .int .i64 (q3 : Nat), .string S, .bool y]); have HC3 := Lib.hid (below_putRow HD3.out (show w.heap.size ≤ w.heap.size by omega) #[.string B, .int .i64 ((s3).p : Nat), .int .i64 ((s3).e : Nat), .int .i64 ((s3).o : Nat), .int .i64 (q3 : Nat), .string S, .bool y]); have HP0_3 := Lib.hid (box_off HV0_3.out (show w.heap.size + 1 ≠ w.heap.size by omega) #[.string B, .int .i64 ((s3).p : Nat), .int .i64 ((s3).e : Nat), .int .i64 ((s3).o : Nat), .int .i64 (q3 : Nat), .string S, .bool y]); have HP1_3 := Lib.hid (box_off HV1_3.out (show w.heap.size + 2 ≠ w.heap.size by omega) #[.string B, .int .i64 ((s3).p : Nat), .int .i64 ((s3).e : Nat), .int .i64 ((s3).o : Nat), .int .i64 (q3 : Nat), .string S, .bool y]); clear HR3 HU3 HD3 HV0_3 HV1_3; generalize w3.setRow (w.heap.size) #[.string B, .int .i64 ((s3).p : Nat), .int .i64 ((s3).e : Nat), .int .i64 ((s3).o : Nat), .int .i64 (q3 : Nat), .string S, .bool y] = u3 at *; obtain ⟨d0, d1, d2, d3, d4, d5, d6⟩ := stcell (s := s3) HI3.out; have xo := HY3.out.cell 2; simp only [List.getElem?_toArray, List.getElem?_cons_zero, List.getElem?_cons_succ] at xo; have xf := HY3.out.frozen 2; have HS3 := Lib.hid (HI3.out.far (p := ⟨w.heap.size + 3, 2, none⟩) (show w.heap.size ≠ w.heap.size + 3 by omega) (.int .i64 (q3 : Nat))); have HX3 : Hid (Box (u3.setCell ⟨w.heap.size + 3, 2, none⟩ (.int .i64 (q3 : Nat))) (w.heap.size + 3) 65 #[.int .i64 (q1 : Nat), .int .i64 (q2 : Nat), .int .i64 (q3 : Nat), .int .i64 0]) := Lib.hid (HY3.out.put 2 (.int .i64 (q3 : Nat))); have HB3 := Lib.hid (HC3.out.setCell (p := ⟨w.heap.size + 3, 2, none⟩) (show w.heap.size ≤ w.heap.size + 3 by omega) (.int .i64 (q3 : Nat))); have HO0_3 := Lib.hid (HP0_3.out.far (p := ⟨w.heap.size + 3, 2, none⟩) (show w.heap.size + 1 ≠ w.heap.size + 3 by omega) (.int .i64 (q3 : Nat))); have HO1_3 := Lib.hid (HP1_3.out.far (p := ⟨w.heap.size + 3, 2, none⟩) (show w.heap.size + 2 ≠ w.heap.size + 3 by omega) (.int .i64 (q3 : Nat))); obtain ⟨e0, e1, e2, e3, e4, e5, e6⟩ := stcell (s := s3) HS3.out)
  clear d0 d1 d2 d3 d4 d5 d6 xo xf e0 e1 e2 e3 e4 e5 e6 HI3 HY3 HC3 HP0_3 HP1_3
  generalize u3.setCell ⟨w.heap.size + 3, 2, none⟩ (.int .i64 (q3 : Nat)) = V3 at *
  refine (HT4.out _).mono ?_
  rintro e w4 ⟨rfl, hb⟩
  have HR4 := Lib.hid (HS3.out.below hb HS3.out.lt)
  have HU4 := Lib.hid (HX3.out.below hb HX3.out.lt)
  have HD4 := Lib.hid (HB3.out.trans (hb.mono HB3.out.size))
  have HV0_4 := Lib.hid (HO0_3.out.below hb HO0_3.out.lt)
  have HV1_4 := Lib.hid (HO1_3.out.below hb HO1_3.out.lt)
  clear hb HS3 HX3 HB3 HO0_3 HO1_3 HT4
  go_wp2_with (refine wpList_store_row rfl 85 (.tmp 1) (.tmp 22) rfl (w.heap.size) 85 _ #[.string B, .int .i64 ((s4).p : Nat), .int .i64 ((s4).e : Nat), .int .i64 ((s4).o : Nat), .int .i64 (q4 : Nat), .string S, .bool y] rfl rfl HR4.out (size_st _ _ _ _ _ _ _) rfl (by simp [Value.oneCell']) ?_; have HI4 := Lib.hid (box_set HR4.out #[.string B, .int .i64 ((s4).p : Nat), .int .i64 ((s4).e : Nat), .int .i64 ((s4).o : Nat), .int .i64 (q4 : Nat), .string S, .bool y]); have HY4 := Lib.hid (box_off HU4.out (show w.heap.size + 3 ≠ w.heap.size by omega) #[.string B, .int .i64 ((s4).p : Nat), .int .i64 ((s4).e : Nat), .int .i64 ((s4).o : Nat), .int .i64 (q4 : Nat), .string S, .bool y]); have HC4 := Lib.hid (below_putRow HD4.out (show w.heap.size ≤ w.heap.size by omega) #[.string B, .int .i64 ((s4).p : Nat), .int .i64 ((s4).e : Nat), .int .i64 ((s4).o : Nat), .int .i64 (q4 : Nat), .string S, .bool y]); have HP0_4 := Lib.hid (box_off HV0_4.out (show w.heap.size + 1 ≠ w.heap.size by omega) #[.string B, .int .i64 ((s4).p : Nat), .int .i64 ((s4).e : Nat), .int .i64 ((s4).o : Nat), .int .i64 (q4 : Nat), .string S, .bool y]); have HP1_4 := Lib.hid (box_off HV1_4.out (show w.heap.size + 2 ≠ w.heap.size by omega) #[.string B, .int .i64 ((s4).p : Nat), .int .i64 ((s4).e : Nat), .int .i64 ((s4).o : Nat), .int .i64 (q4 : Nat), .string S, .bool y]); clear HR4 HU4 HD4 HV0_4 HV1_4; generalize w4.setRow (w.heap.size) #[.string B, .int .i64 ((s4).p : Nat), .int .i64 ((s4).e : Nat), .int .i64 ((s4).o : Nat), .int .i64 (q4 : Nat), .string S, .bool y] = u4 at *; obtain ⟨d0, d1, d2, d3, d4, d5, d6⟩ := stcell (s := s4) HI4.out; have xo := HY4.out.cell 3; simp only [List.getElem?_toArray, List.getElem?_cons_zero, List.getElem?_cons_succ] at xo; have xf := HY4.out.frozen 3; have HS4 := Lib.hid (HI4.out.far (p := ⟨w.heap.size + 3, 3, none⟩) (show w.heap.size ≠ w.heap.size + 3 by omega) (.int .i64 (q4 : Nat))); have HX4 : Hid (Box (u4.setCell ⟨w.heap.size + 3, 3, none⟩ (.int .i64 (q4 : Nat))) (w.heap.size + 3) 65 #[.int .i64 (q1 : Nat), .int .i64 (q2 : Nat), .int .i64 (q3 : Nat), .int .i64 (q4 : Nat)]) := Lib.hid (HY4.out.put 3 (.int .i64 (q4 : Nat))); have HB4 := Lib.hid (HC4.out.setCell (p := ⟨w.heap.size + 3, 3, none⟩) (show w.heap.size ≤ w.heap.size + 3 by omega) (.int .i64 (q4 : Nat))); have HO0_4 := Lib.hid (HP0_4.out.far (p := ⟨w.heap.size + 3, 3, none⟩) (show w.heap.size + 1 ≠ w.heap.size + 3 by omega) (.int .i64 (q4 : Nat))); have HO1_4 := Lib.hid (HP1_4.out.far (p := ⟨w.heap.size + 3, 3, none⟩) (show w.heap.size + 2 ≠ w.heap.size + 3 by omega) (.int .i64 (q4 : Nat))); obtain ⟨e0, e1, e2, e3, e4, e5, e6⟩ := stcell (s := s4) HS4.out)
  clear d0 d1 d2 d3 d4 d5 d6 xo xf e0 e1 e2 e3 e4 e5 e6 HI4 HY4 HC4 HP0_4 HP1_4
  generalize u4.setCell ⟨w.heap.size + 3, 3, none⟩ (.int .i64 (q4 : Nat)) = V4 at *
  go_wp2_with fail
  have z0 : ∀ v, Box v (w.heap.size) 85 #[.string B, .int .i64 ((s4).p : Nat), .int .i64 ((s4).e : Nat), .int .i64 ((s4).o : Nat), .int .i64 (q4 : Nat), .string S, .bool y] ∧ Box v (w.heap.size + 3) 65 #[.int .i64 (q1 : Nat), .int .i64 (q2 : Nat), .int .i64 (q3 : Nat), .int .i64 (q4 : Nat)] → v.cell? ⟨w.heap.size, 0, none⟩ = some (.string B) := fun v h => h.1.cell 0
  have z1 : ∀ v, Box v (w.heap.size) 85 #[.string B, .int .i64 ((s4).p : Nat), .int .i64 ((s4).e : Nat), .int .i64 ((s4).o : Nat), .int .i64 (q4 : Nat), .string S, .bool y] ∧ Box v (w.heap.size + 3) 65 #[.int .i64 (q1 : Nat), .int .i64 (q2 : Nat), .int .i64 (q3 : Nat), .int .i64 (q4 : Nat)] → v.cell? ⟨w.heap.size, 1, none⟩ = some (.int .i64 ((s4).p : Nat)) := fun v h => h.1.cell 1
  have z2 : ∀ v, Box v (w.heap.size) 85 #[.string B, .int .i64 ((s4).p : Nat), .int .i64 ((s4).e : Nat), .int .i64 ((s4).o : Nat), .int .i64 (q4 : Nat), .string S, .bool y] ∧ Box v (w.heap.size + 3) 65 #[.int .i64 (q1 : Nat), .int .i64 (q2 : Nat), .int .i64 (q3 : Nat), .int .i64 (q4 : Nat)] → v.cell? ⟨w.heap.size, 2, none⟩ = some (.int .i64 ((s4).e : Nat)) := fun v h => h.1.cell 2
  have z3 : ∀ v, Box v (w.heap.size) 85 #[.string B, .int .i64 ((s4).p : Nat), .int .i64 ((s4).e : Nat), .int .i64 ((s4).o : Nat), .int .i64 (q4 : Nat), .string S, .bool y] ∧ Box v (w.heap.size + 3) 65 #[.int .i64 (q1 : Nat), .int .i64 (q2 : Nat), .int .i64 (q3 : Nat), .int .i64 (q4 : Nat)] → v.cell? ⟨w.heap.size, 3, none⟩ = some (.int .i64 ((s4).o : Nat)) := fun v h => h.1.cell 3
  have z4 : ∀ v, Box v (w.heap.size) 85 #[.string B, .int .i64 ((s4).p : Nat), .int .i64 ((s4).e : Nat), .int .i64 ((s4).o : Nat), .int .i64 (q4 : Nat), .string S, .bool y] ∧ Box v (w.heap.size + 3) 65 #[.int .i64 (q1 : Nat), .int .i64 (q2 : Nat), .int .i64 (q3 : Nat), .int .i64 (q4 : Nat)] → v.cell? ⟨w.heap.size, 4, none⟩ = some (.int .i64 (q4 : Nat)) := fun v h => h.1.cell 4
  have z5 : ∀ v, Box v (w.heap.size) 85 #[.string B, .int .i64 ((s4).p : Nat), .int .i64 ((s4).e : Nat), .int .i64 ((s4).o : Nat), .int .i64 (q4 : Nat), .string S, .bool y] ∧ Box v (w.heap.size + 3) 65 #[.int .i64 (q1 : Nat), .int .i64 (q2 : Nat), .int .i64 (q3 : Nat), .int .i64 (q4 : Nat)] → v.cell? ⟨w.heap.size, 5, none⟩ = some (.string S) := fun v h => h.1.cell 5
  have z6 : ∀ v, Box v (w.heap.size) 85 #[.string B, .int .i64 ((s4).p : Nat), .int .i64 ((s4).e : Nat), .int .i64 ((s4).o : Nat), .int .i64 (q4 : Nat), .string S, .bool y] ∧ Box v (w.heap.size + 3) 65 #[.int .i64 (q1 : Nat), .int .i64 (q2 : Nat), .int .i64 (q3 : Nat), .int .i64 (q4 : Nat)] → v.cell? ⟨w.heap.size, 6, none⟩ = some (.bool y) := fun v h => h.1.cell 6
  have y0 : ∀ v, Box v (w.heap.size) 85 #[.string B, .int .i64 ((s4).p : Nat), .int .i64 ((s4).e : Nat), .int .i64 ((s4).o : Nat), .int .i64 (q4 : Nat), .string S, .bool y] ∧ Box v (w.heap.size + 3) 65 #[.int .i64 (q1 : Nat), .int .i64 (q2 : Nat), .int .i64 (q3 : Nat), .int .i64 (q4 : Nat)] → v.cell? ⟨w.heap.size + 3, 0, none⟩ = some (.int .i64 (q1 : Nat)) := fun v h => h.2.cell 0
  have y1 : ∀ v, Box v (w.heap.size) 85 #[.string B, .int .i64 ((s4).p : Nat), .int .i64 ((s4).e : Nat), .int .i64 ((s4).o : Nat), .int .i64 (q4 : Nat), .string S, .bool y] ∧ Box v (w.heap.size + 3) 65 #[.int .i64 (q1 : Nat), .int .i64 (q2 : Nat), .int .i64 (q3 : Nat), .int .i64 (q4 : Nat)] → v.cell? ⟨w.heap.size + 3, 1, none⟩ = some (.int .i64 (q2 : Nat)) := fun v h => h.2.cell 1
  have y2 : ∀ v, Box v (w.heap.size) 85 #[.string B, .int .i64 ((s4).p : Nat), .int .i64 ((s4).e : Nat), .int .i64 ((s4).o : Nat), .int .i64 (q4 : Nat), .string S, .bool y] ∧ Box v (w.heap.size + 3) 65 #[.int .i64 (q1 : Nat), .int .i64 (q2 : Nat), .int .i64 (q3 : Nat), .int .i64 (q4 : Nat)] → v.cell? ⟨w.heap.size + 3, 2, none⟩ = some (.int .i64 (q3 : Nat)) := fun v h => h.2.cell 2
  have y3 : ∀ v, Box v (w.heap.size) 85 #[.string B, .int .i64 ((s4).p : Nat), .int .i64 ((s4).e : Nat), .int .i64 ((s4).o : Nat), .int .i64 (q4 : Nat), .string S, .bool y] ∧ Box v (w.heap.size + 3) 65 #[.int .i64 (q1 : Nat), .int .i64 (q2 : Nat), .int .i64 (q3 : Nat), .int .i64 (q4 : Nat)] → v.cell? ⟨w.heap.size + 3, 3, none⟩ = some (.int .i64 (q4 : Nat)) := fun v h => h.2.cell 3
  have hs := box_off (HO1_4.out.drewN 1) (show w.heap.size + 2 ≠ w.heap.size + 1 by omega) #[.string B, .int .i64 ((s4).p : Nat), .int .i64 ((s4).e : Nat), .int .i64 ((s4).o : Nat), .int .i64 (q4 : Nat), .string S, .bool y]
  have hA := Lib.hid (⟨HS4.out.drewN 1, HX4.out.drewN 1⟩ : (fun v => Box v (w.heap.size) 85 #[.string B, .int .i64 ((s4).p : Nat), .int .i64 ((s4).e : Nat), .int .i64 ((s4).o : Nat), .int .i64 (q4 : Nat), .string S, .bool y] ∧ Box v (w.heap.size + 3) 65 #[.int .i64 (q1 : Nat), .int .i64 (q2 : Nat), .int .i64 (q3 : Nat), .int .i64 (q4 : Nat)]) (V4.drewN 1))
  refine wp_region_held_drew (S := fun v => Box v (w.heap.size) 85 #[.string B, .int .i64 ((s4).p : Nat), .int .i64 ((s4).e : Nat), .int .i64 ((s4).o : Nat), .int .i64 (q4 : Nat), .string S, .bool y] ∧ Box v (w.heap.size + 3) 65 #[.int .i64 (q1 : Nat), .int .i64 (q2 : Nat), .int .i64 (q3 : Nat), .int .i64 (q4 : Nat)]) (by kernel_rfl) (hA.out) (fun hHeld => ?_)
  refine wpAnyH_take (i := 0) (oi := ⟨some 26, _, _, _, _, _⟩) (v := ?_) rfl (by kernel_rfl) (by kernel_rfl) (by kernel_rfl) (fun _ _ _ h => h) (Or.inl ⟨by rfl, ?_⟩) (by assumption) ?_
  rotate_left
  · (intro u hu; (try dsimp only at hu); go_simp; (try with_reducible rfl))
  (try simp only [Act.put, List.setIfInBounds_toArray, List.set_cons_zero, List.set_cons_succ])
  refine wpAnyH_take (i := 1) (oi := ⟨some 27, _, _, _, _, _⟩) (v := ?_) rfl (by kernel_rfl) (by kernel_rfl) (by kernel_rfl) (fun _ _ _ h => h) (Or.inl ⟨by rfl, ?_⟩) (by assumption) ?_
  rotate_left
  · (intro u hu; (try dsimp only at hu); go_simp; (try with_reducible rfl))
  (try simp only [Act.put, List.setIfInBounds_toArray, List.set_cons_zero, List.set_cons_succ])
  refine wpAnyH_ready (rs := [2]) (by decide +kernel) (by simp) ?_
  refine AllReadyH.cons (o := ⟨none, _, _, _, _, _⟩) rfl (fun K hK => ?_) AllReadyH.nil
  rw [if_pos (by rfl)]
  refine oper_store 85 _ _ rfl (w.heap.size + 1) 85 _ #[.string B, .int .i64 ((s4).p : Nat), .int .i64 ((s4).e : Nat), .int .i64 ((s4).o : Nat), .int .i64 (q4 : Nat), .string S, .bool y] rfl rfl (HO0_4.out.drewN 1) (size_st _ _ _ _ _ _ _) rfl (by simp [Value.oneCell']) ?_
  have hA := Lib.hid (⟨box_off hA.out.1 (show w.heap.size ≠ w.heap.size + 1 by omega) #[.string B, .int .i64 ((s4).p : Nat), .int .i64 ((s4).e : Nat), .int .i64 ((s4).o : Nat), .int .i64 (q4 : Nat), .string S, .bool y], box_off hA.out.2 (show w.heap.size + 3 ≠ w.heap.size + 1 by omega) #[.string B, .int .i64 ((s4).p : Nat), .int .i64 ((s4).e : Nat), .int .i64 ((s4).o : Nat), .int .i64 (q4 : Nat), .string S, .bool y]⟩ : (fun v => Box v (w.heap.size) 85 #[.string B, .int .i64 ((s4).p : Nat), .int .i64 ((s4).e : Nat), .int .i64 ((s4).o : Nat), .int .i64 (q4 : Nat), .string S, .bool y] ∧ Box v (w.heap.size + 3) 65 #[.int .i64 (q1 : Nat), .int .i64 (q2 : Nat), .int .i64 (q3 : Nat), .int .i64 (q4 : Nat)]) (_ : World))
  refine hK.out _ _ ?_ (fun hHeld => ?_)
  · exact hA.out
  clear hK K
  (try simp only [Act.put])
  refine wpAnyH_ready (rs := [3]) (by decide +kernel) (by simp) ?_
  refine AllReadyH.cons (o := ⟨none, _, _, _, _, _⟩) rfl (fun K hK => ?_) AllReadyH.nil
  rw [if_pos (by rfl)]
  refine oper_store 65 _ _ rfl (w.heap.size + 2) 65 _ #[.int .i64 (q1 : Nat), .int .i64 (q2 : Nat), .int .i64 (q3 : Nat), .int .i64 (q4 : Nat)] rfl rfl hs (by show (Try.prog.info? 65).map (·.size) = some 4; kernel_rfl) rfl (by simp [Value.oneCell']) ?_
  have hA := Lib.hid (⟨box_off hA.out.1 (show w.heap.size ≠ w.heap.size + 2 by omega) #[.int .i64 (q1 : Nat), .int .i64 (q2 : Nat), .int .i64 (q3 : Nat), .int .i64 (q4 : Nat)], box_off hA.out.2 (show w.heap.size + 3 ≠ w.heap.size + 2 by omega) #[.int .i64 (q1 : Nat), .int .i64 (q2 : Nat), .int .i64 (q3 : Nat), .int .i64 (q4 : Nat)]⟩ : (fun v => Box v (w.heap.size) 85 #[.string B, .int .i64 ((s4).p : Nat), .int .i64 ((s4).e : Nat), .int .i64 ((s4).o : Nat), .int .i64 (q4 : Nat), .string S, .bool y] ∧ Box v (w.heap.size + 3) 65 #[.int .i64 (q1 : Nat), .int .i64 (q2 : Nat), .int .i64 (q3 : Nat), .int .i64 (q4 : Nat)]) (_ : World))
  refine hK.out _ _ ?_ (fun hHeld => ?_)
  · exact hA.out
  clear hK K
  (try simp only [Act.put])
  refine wpAnyH_done (by kernel_rfl) ?_ _
  clear z0 z1 z2 z3 z4 z5 z6 y0 y1 y2 y3
  go_wp2_with fail
  refine bodyPost_ret (res_cc rfl _ _ (w.heap.size + 1) (w.heap.size + 2) #[.string B, .int .i64 ((s4).p : Nat), .int .i64 ((s4).e : Nat), .int .i64 ((s4).o : Nat), .int .i64 (q4 : Nat), .string S, .bool y] #[.int .i64 (q1 : Nat), .int .i64 (q2 : Nat), .int .i64 (q3 : Nat), .int .i64 (q4 : Nat)] Try.underlying85 Try.underlying65 (size_st _ _ _ _ _ _ _) (by show (Try.prog.info? 65).map (·.size) = some 4; kernel_rfl) rfl rfl (box_off (box_set (HO0_4.out.drewN 1) _) (by omega) _) (box_set hs _)) rfl ⟨⟨_, rfl⟩, ?_⟩
  exact below_putRow (below_putRow (Below.drew HB4.out) (by omega) _) (by omega) _
end Go.Proofs.Ytihkadbcjeohjaa.Co

namespace Go.Proofs.Ytihkadbcjeohjaa.Co
open Go.RowKit
open Go.Proofs.Ytihkadbcjeohjaa.El
open Go.Proofs.Ytihkadbcjeohjaa.Df
open Go.Proofs.Ytihkadbcjeohjaa.Bo (P Made ret_int ret_bool)
open Go.Proofs.Ytihkadbcjeohjaa.Sa (Sg Rp)

theorem box3 (w : World) (t0 t1 t2 : TypeId) (c0 c1 c2 : Array Value) :
    Box (((w.alloc (.cells c0 t0)).alloc (.cells c1 t1)).alloc (.cells c2 t2)) w.heap.size t0 c0 ∧ Box (((w.alloc (.cells c0 t0)).alloc (.cells c1 t1)).alloc (.cells c2 t2)) (w.heap.size + 1) t1 c1 ∧
      Box (((w.alloc (.cells c0 t0)).alloc (.cells c1 t1)).alloc (.cells c2 t2)) (w.heap.size + 2) t2 c2 := by
  refine ⟨((Box.new w t0 c0).alloc _).alloc _, (box_new2 w _ t1 c1).alloc _, ?_⟩
  have := Box.new ((w.alloc (.cells c0 t0)).alloc (.cells c1 t1)) t2 c2
  simpa using this
theorem below3 (w : World) (a b c : Obj) : Below w.heap.size w (((w.alloc a).alloc b).alloc c) := (((Below.refl w.heap.size w).alloc (Nat.le_refl _) _).alloc (by simp) _).alloc (by simp; omega) _
set_option maxHeartbeats 16000000 in
set_option maxRecDepth 100000 in
theorem readSaga_s (B : ByteArray) (w : World) (hB : B.size ≤ 1099511627776) :
    Calls Try.prog 17 #[.string B] w fun e w' => e = .returned (takenV (sagaE B.data.toList) true (.agg #[.int .i64 0, .string ⟨#[]⟩, .int .i64 0, .int .i64 0, .int .i64 0, .int .i64 0, .bool false, .int .i64 0, .int .i64 0]) (.agg #[.int .i64 (sagaQ B.data.toList zeroP).id, .string (sagaQ B.data.toList zeroP).dn, .int .i64 (sagaQ B.data.toList zeroP).st, .int .i64 (sagaQ B.data.toList zeroP).ph, .int .i64 (sagaQ B.data.toList zeroP).sp, .int .i64 (sagaQ B.data.toList zeroP).tr, .bool (sagaQ B.data.toList zeroP).out, .int .i64 (sagaQ B.data.toList zeroP).at_, .int .i64 (sagaQ B.data.toList zeroP).sk])) ∧ Below w.heap.size w w' := by
  have hk := Ok.zero hB
  obtain ⟨hx0, hx1, hx2⟩ := box3 w 40 85 40 #[.int .i64 0, .string ⟨#[]⟩, .int .i64 0, .int .i64 0, .int .i64 0, .int .i64 0, .bool false, .int .i64 0, .int .i64 0] #[.string B, .int .i64 0, .int .i64 0, .int .i64 0, .int .i64 0, .string ⟨#[]⟩, .bool false] #[.int .i64 0, .string ⟨#[]⟩, .int .i64 0, .int .i64 0, .int .i64 0, .int .i64 0, .bool false, .int .i64 0, .int .i64 0]
  have HO0_0 := Lib.hid hx0
  have HS0 : Hid (Box (((w.alloc (.cells #[.int .i64 0, .string ⟨#[]⟩, .int .i64 0, .int .i64 0, .int .i64 0, .int .i64 0, .bool false, .int .i64 0, .int .i64 0] 40)).alloc (.cells #[.string B, .int .i64 0, .int .i64 0, .int .i64 0, .int .i64 0, .string ⟨#[]⟩, .bool false] 85)).alloc (.cells #[.int .i64 0, .string ⟨#[]⟩, .int .i64 0, .int .i64 0, .int .i64 0, .int .i64 0, .bool false, .int .i64 0, .int .i64 0] 40)) (w.heap.size + 1) 85 #[.string B, .int .i64 ((at0 0).p : Nat), .int .i64 ((at0 0).e : Nat), .int .i64 ((at0 0).o : Nat), .int .i64 0, .string ⟨#[]⟩, .bool false]) := Lib.hid hx1
  have HX0 := Lib.hid hx2
  have HB0 : Hid (Below w.heap.size w (((w.alloc (.cells #[.int .i64 0, .string ⟨#[]⟩, .int .i64 0, .int .i64 0, .int .i64 0, .int .i64 0, .bool false, .int .i64 0, .int .i64 0] 40)).alloc (.cells #[.string B, .int .i64 0, .int .i64 0, .int .i64 0, .int .i64 0, .string ⟨#[]⟩, .bool false] 85)).alloc (.cells #[.int .i64 0, .string ⟨#[]⟩, .int .i64 0, .int .i64 0, .int .i64 0, .int .i64 0, .bool false, .int .i64 0, .int .i64 0] 40))) := Lib.hid (below3 w _ _ _)
  clear hx0 hx1 hx2
  have HQ : Hid (sagaE B.data.toList = endS B.data.toList (sagaS B.data.toList zeroP)) := Lib.hid rfl
  obtain ⟨s1, hs1⟩ : ∃ t, t = numS B.data.toList (at0 0) := ⟨_, rfl⟩
  obtain ⟨q1, hq1⟩ : ∃ q, q = numQ B.data.toList (at0 0) := ⟨_, rfl⟩
  have HT1 : Hid (∀ W, Calls Try.prog 46 #[.agg #[.string B, .int .i64 ((at0 0).p : Nat), .int .i64 ((at0 0).e : Nat), .int .i64 ((at0 0).o : Nat), .int .i64 0, .string ⟨#[]⟩, .bool false]] W fun e w2 => e = .returned (.agg #[.string B, .int .i64 ((s1).p : Nat), .int .i64 ((s1).e : Nat), .int .i64 ((s1).o : Nat), .int .i64 (q1 : Nat), .string ⟨#[]⟩, .bool false]) ∧ Below W.heap.size W w2) := Lib.hid fun W => by rw [hs1, hq1]; exact takeN_s B (at0 0) _ _ _ W (hk)
  have ok1 : Ok B s1 := by rw [hs1]; exact Ok.num (hk)
  obtain ⟨s2, hs2⟩ : ∃ t, t = txtS B.data.toList (s1) := ⟨_, rfl⟩
  obtain ⟨q2, hq2⟩ : ∃ q, q = txtQ B.data.toList (s1) := ⟨_, rfl⟩
  have HT2 : Hid (∀ W, Calls Try.prog 47 #[.agg #[.string B, .int .i64 ((s1).p : Nat), .int .i64 ((s1).e : Nat), .int .i64 ((s1).o : Nat), .int .i64 (q1 : Nat), .string ⟨#[]⟩, .bool false], .int .i64 256] W fun e w2 => e = .returned (.agg #[.string B, .int .i64 ((s2).p : Nat), .int .i64 ((s2).e : Nat), .int .i64 ((s2).o : Nat), .int .i64 (q1 : Nat), .string q2, .bool false]) ∧ Below W.heap.size W w2) := Lib.hid fun W => by rw [hs2, hq2]; exact textS_s B (s1) _ _ _ W (ok1)
  have ok2 : Ok B s2 := by rw [hs2]; exact Ok.txt (ok1)
  obtain ⟨s3, hs3⟩ : ∃ t, t = numS B.data.toList (s2) := ⟨_, rfl⟩
  obtain ⟨q3, hq3⟩ : ∃ q, q = numQ B.data.toList (s2) := ⟨_, rfl⟩
  have HT3 : Hid (∀ W, Calls Try.prog 46 #[.agg #[.string B, .int .i64 ((s2).p : Nat), .int .i64 ((s2).e : Nat), .int .i64 ((s2).o : Nat), .int .i64 (q1 : Nat), .string q2, .bool false]] W fun e w2 => e = .returned (.agg #[.string B, .int .i64 ((s3).p : Nat), .int .i64 ((s3).e : Nat), .int .i64 ((s3).o : Nat), .int .i64 (q3 : Nat), .string q2, .bool false]) ∧ Below W.heap.size W w2) := Lib.hid fun W => by rw [hs3, hq3]; exact takeN_s B (s2) _ _ _ W (ok2)
  have ok3 : Ok B s3 := by rw [hs3]; exact Ok.num (ok2)
  obtain ⟨s4, hs4⟩ : ∃ t, t = numS B.data.toList (s3) := ⟨_, rfl⟩
  obtain ⟨q4, hq4⟩ : ∃ q, q = numQ B.data.toList (s3) := ⟨_, rfl⟩
  have HT4 : Hid (∀ W, Calls Try.prog 46 #[.agg #[.string B, .int .i64 ((s3).p : Nat), .int .i64 ((s3).e : Nat), .int .i64 ((s3).o : Nat), .int .i64 (q3 : Nat), .string q2, .bool false]] W fun e w2 => e = .returned (.agg #[.string B, .int .i64 ((s4).p : Nat), .int .i64 ((s4).e : Nat), .int .i64 ((s4).o : Nat), .int .i64 (q4 : Nat), .string q2, .bool false]) ∧ Below W.heap.size W w2) := Lib.hid fun W => by rw [hs4, hq4]; exact takeN_s B (s3) _ _ _ W (ok3)
  have ok4 : Ok B s4 := by rw [hs4]; exact Ok.num (ok3)
  obtain ⟨s5, hs5⟩ : ∃ t, t = numS B.data.toList (s4) := ⟨_, rfl⟩
  obtain ⟨q5, hq5⟩ : ∃ q, q = numQ B.data.toList (s4) := ⟨_, rfl⟩
  have HT5 : Hid (∀ W, Calls Try.prog 46 #[.agg #[.string B, .int .i64 ((s4).p : Nat), .int .i64 ((s4).e : Nat), .int .i64 ((s4).o : Nat), .int .i64 (q4 : Nat), .string q2, .bool false]] W fun e w2 => e = .returned (.agg #[.string B, .int .i64 ((s5).p : Nat), .int .i64 ((s5).e : Nat), .int .i64 ((s5).o : Nat), .int .i64 (q5 : Nat), .string q2, .bool false]) ∧ Below W.heap.size W w2) := Lib.hid fun W => by rw [hs5, hq5]; exact takeN_s B (s4) _ _ _ W (ok4)
  have ok5 : Ok B s5 := by rw [hs5]; exact Ok.num (ok4)
  obtain ⟨s6, hs6⟩ : ∃ t, t = numS B.data.toList (s5) := ⟨_, rfl⟩
  obtain ⟨q6, hq6⟩ : ∃ q, q = numQ B.data.toList (s5) := ⟨_, rfl⟩
  have HT6 : Hid (∀ W, Calls Try.prog 46 #[.agg #[.string B, .int .i64 ((s5).p : Nat), .int .i64 ((s5).e : Nat), .int .i64 ((s5).o : Nat), .int .i64 (q5 : Nat), .string q2, .bool false]] W fun e w2 => e = .returned (.agg #[.string B, .int .i64 ((s6).p : Nat), .int .i64 ((s6).e : Nat), .int .i64 ((s6).o : Nat), .int .i64 (q6 : Nat), .string q2, .bool false]) ∧ Below W.heap.size W w2) := Lib.hid fun W => by rw [hs6, hq6]; exact takeN_s B (s5) _ _ _ W (ok5)
  have ok6 : Ok B s6 := by rw [hs6]; exact Ok.num (ok5)
  obtain ⟨s7, hs7⟩ : ∃ t, t = flgS B.data.toList (s6) := ⟨_, rfl⟩
  obtain ⟨q7, hq7⟩ : ∃ q, q = flgQ B.data.toList (s6) := ⟨_, rfl⟩
  have HT7 : Hid (∀ W, Calls Try.prog 48 #[.agg #[.string B, .int .i64 ((s6).p : Nat), .int .i64 ((s6).e : Nat), .int .i64 ((s6).o : Nat), .int .i64 (q6 : Nat), .string q2, .bool false]] W fun e w2 => e = .returned (.agg #[.string B, .int .i64 ((s7).p : Nat), .int .i64 ((s7).e : Nat), .int .i64 ((s7).o : Nat), .int .i64 (q6 : Nat), .string q2, .bool q7]) ∧ Below W.heap.size W w2) := Lib.hid fun W => by rw [hs7, hq7]; exact flagY_s B (s6) _ _ _ W (ok6)
  have ok7 : Ok B s7 := by rw [hs7]; exact Ok.flg (ok6)
  obtain ⟨s8, hs8⟩ : ∃ t, t = numS B.data.toList (s7) := ⟨_, rfl⟩
  obtain ⟨q8, hq8⟩ : ∃ q, q = numQ B.data.toList (s7) := ⟨_, rfl⟩
  have HT8 : Hid (∀ W, Calls Try.prog 46 #[.agg #[.string B, .int .i64 ((s7).p : Nat), .int .i64 ((s7).e : Nat), .int .i64 ((s7).o : Nat), .int .i64 (q6 : Nat), .string q2, .bool q7]] W fun e w2 => e = .returned (.agg #[.string B, .int .i64 ((s8).p : Nat), .int .i64 ((s8).e : Nat), .int .i64 ((s8).o : Nat), .int .i64 (q8 : Nat), .string q2, .bool q7]) ∧ Below W.heap.size W w2) := Lib.hid fun W => by rw [hs8, hq8]; exact takeN_s B (s7) _ _ _ W (ok7)
  have ok8 : Ok B s8 := by rw [hs8]; exact Ok.num (ok7)
  obtain ⟨s9, hs9⟩ : ∃ t, t = numS B.data.toList (s8) := ⟨_, rfl⟩
  obtain ⟨q9, hq9⟩ : ∃ q, q = numQ B.data.toList (s8) := ⟨_, rfl⟩
  have HT9 : Hid (∀ W, Calls Try.prog 46 #[.agg #[.string B, .int .i64 ((s8).p : Nat), .int .i64 ((s8).e : Nat), .int .i64 ((s8).o : Nat), .int .i64 (q8 : Nat), .string q2, .bool q7]] W fun e w2 => e = .returned (.agg #[.string B, .int .i64 ((s9).p : Nat), .int .i64 ((s9).e : Nat), .int .i64 ((s9).o : Nat), .int .i64 (q9 : Nat), .string q2, .bool q7]) ∧ Below W.heap.size W w2) := Lib.hid fun W => by rw [hs9, hq9]; exact takeN_s B (s8) _ _ _ W (ok8)
  have ok9 : Ok B s9 := by rw [hs9]; exact Ok.num (ok8)
  have HG : Hid (sagaS B.data.toList zeroP = s9 ∧ sagaQ B.data.toList zeroP = ⟨q1, q2, q3, q4, q5, q6, q7, q8, q9⟩) := Lib.hid (by subst_vars; exact ⟨rfl, rfl⟩)
  have Hok9 := Lib.hid ok9
  clear ok9 hs9 hq9
  have Hok8 := Lib.hid ok8
  clear ok8 hs8 hq8
  have Hok7 := Lib.hid ok7
  clear ok7 hs7 hq7
  have Hok6 := Lib.hid ok6
  clear ok6 hs6 hq6
  have Hok5 := Lib.hid ok5
  clear ok5 hs5 hq5
  have Hok4 := Lib.hid ok4
  clear ok4 hs4 hq4
  have Hok3 := Lib.hid ok3
  clear ok3 hs3 hq3
  have Hok2 := Lib.hid ok2
  clear ok2 hs2 hq2
  have Hok1 := Lib.hid ok1
  clear ok1 hs1 hq1
  rw [HQ.out, HG.out.1, HG.out.2]
  obtain ⟨T, hT⟩ : ∃ T, T = endS B.data.toList s9 := ⟨_, rfl⟩
  rw [← hT]
  obtain ⟨ans, hans⟩ : ∃ ans, ans = takenV T true (.agg #[.int .i64 0, .string ⟨#[]⟩, .int .i64 0, .int .i64 0, .int .i64 0, .int .i64 0, .bool false, .int .i64 0, .int .i64 0]) (.agg #[.int .i64 (q1 : Nat), .string (q2), .int .i64 (q3 : Nat), .int .i64 (q4 : Nat), .int .i64 (q5 : Nat), .int .i64 (q6 : Nat), .bool (q7), .int .i64 (q8 : Nat), .int .i64 (q9 : Nat)]) := ⟨_, rfl⟩
  rw [show takenV T true (.agg #[.int .i64 0, .string ⟨#[]⟩, .int .i64 0, .int .i64 0, .int .i64 0, .int .i64 0, .bool false, .int .i64 0, .int .i64 0]) (.agg #[.int .i64 (q1 : Nat), .string (q2), .int .i64 (q3 : Nat), .int .i64 (q4 : Nat), .int .i64 (q5 : Nat), .int .i64 (q6 : Nat), .bool (q7), .int .i64 (q8 : Nat), .int .i64 (q9 : Nat)]) = ans from hans.symm]
  have HA := Lib.hid hans
  have HTe : Hid (∀ W, Calls Try.prog 36 #[.agg #[.string B, .int .i64 ((s9).p : Nat), .int .i64 ((s9).e : Nat), .int .i64 ((s9).o : Nat), .int .i64 (q9 : Nat), .string q2, .bool q7]] W fun e w2 => e = .returned (.agg #[.string B, .int .i64 ((T).p : Nat), .int .i64 ((T).e : Nat), .int .i64 ((T).o : Nat), .int .i64 (q9 : Nat), .string q2, .bool q7]) ∧ Below W.heap.size W w2) := Lib.hid fun W => by rw [hT]; exact endR_s B s9 _ _ _ W Hok9.out
  clear HQ HG hk hT hans
  go_enter Try.func17, Try.ntmps17
  go_upto_region 3 with fail
  generalize ((w.alloc (.cells #[.int .i64 0, .string ⟨#[]⟩, .int .i64 0, .int .i64 0, .int .i64 0, .int .i64 0, .bool false, .int .i64 0, .int .i64 0] 40)).alloc (.cells #[.string B, .int .i64 0, .int .i64 0, .int .i64 0, .int .i64 0, .string ⟨#[]⟩, .bool false] 85)).alloc (.cells #[.int .i64 0, .string ⟨#[]⟩, .int .i64 0, .int .i64 0, .int .i64 0, .int .i64 0, .bool false, .int .i64 0, .int .i64 0] 40) = W0 at *
  obtain ⟨e0, e1, e2, e3, e4, e5, e6⟩ := stcell (s := at0 0) HS0.out
  go_wp2_with fail
  refine (HT1.out _).mono ?_
  rintro e w1 ⟨rfl, hb⟩
  have HR1 := Lib.hid (HS0.out.below hb HS0.out.lt)
  have HU1 := Lib.hid (HX0.out.below hb HX0.out.lt)
  have HD1 := Lib.hid (HB0.out.trans (hb.mono HB0.out.size))
  have HV0_1 := Lib.hid (HO0_0.out.below hb HO0_0.out.lt)
  clear hb HS0 HX0 HB0 HO0_0 HT1
  clear e0 e1 e2 e3 e4 e5 e6
  go_wp2_with (refine wpList_store_row rfl 85 (.tmp 5) (.tmp 11) rfl (w.heap.size + 1) 85 _ #[.string B, .int .i64 ((s1).p : Nat), .int .i64 ((s1).e : Nat), .int .i64 ((s1).o : Nat), .int .i64 (q1 : Nat), .string ⟨#[]⟩, .bool false] rfl rfl HR1.out (size_st _ _ _ _ _ _ _) rfl (by simp [Value.oneCell']) ?_; have HI1 := Lib.hid (box_set HR1.out #[.string B, .int .i64 ((s1).p : Nat), .int .i64 ((s1).e : Nat), .int .i64 ((s1).o : Nat), .int .i64 (q1 : Nat), .string ⟨#[]⟩, .bool false]); have HY1 := Lib.hid (box_off HU1.out (show w.heap.size + 2 ≠ w.heap.size + 1 by omega) #[.string B, .int .i64 ((s1).p : Nat), .int .i64 ((s1).e : Nat), .int .i64 ((s1).o : Nat), .int .i64 (q1 : Nat), .string ⟨#[]⟩, .bool false]); have HC1 := Lib.hid (below_putRow HD1.out (show w.heap.size ≤ w.heap.size + 1 by omega) #[.string B, .int .i64 ((s1).p : Nat), .int .i64 ((s1).e : Nat), .int .i64 ((s1).o : Nat), .int .i64 (q1 : Nat), .string ⟨#[]⟩, .bool false]); have HP0_1 := Lib.hid (box_off HV0_1.out (show w.heap.size ≠ w.heap.size + 1 by omega) #[.string B, .int .i64 ((s1).p : Nat), .int .i64 ((s1).e : Nat), .int .i64 ((s1).o : Nat), .int .i64 (q1 : Nat), .string ⟨#[]⟩, .bool false]); clear HR1 HU1 HD1 HV0_1; generalize w1.setRow (w.heap.size + 1) #[.string B, .int .i64 ((s1).p : Nat), .int .i64 ((s1).e : Nat), .int .i64 ((s1).o : Nat), .int .i64 (q1 : Nat), .string ⟨#[]⟩, .bool false] = u1 at *; obtain ⟨d0, d1, d2, d3, d4, d5, d6⟩ := stcell (s := s1) HI1.out; have xo := HY1.out.cell 0; simp only [List.getElem?_toArray, List.getElem?_cons_zero] at xo; have xf := HY1.out.frozen 0; have HS1 := Lib.hid (HI1.out.far (p := ⟨w.heap.size + 2, 0, none⟩) (show w.heap.size + 1 ≠ w.heap.size + 2 by omega) (.int .i64 (q1 : Nat))); have HX1 : Hid (Box (u1.setCell ⟨w.heap.size + 2, 0, none⟩ (.int .i64 (q1 : Nat))) (w.heap.size + 2) 40 #[.int .i64 (q1 : Nat), .string ⟨#[]⟩, .int .i64 0, .int .i64 0, .int .i64 0, .int .i64 0, .bool false, .int .i64 0, .int .i64 0]) := Lib.hid (HY1.out.put 0 (.int .i64 (q1 : Nat))); have HB1 := Lib.hid (HC1.out.setCell (p := ⟨w.heap.size + 2, 0, none⟩) (show w.heap.size ≤ w.heap.size + 2 by omega) (.int .i64 (q1 : Nat))); have HO0_1 := Lib.hid (HP0_1.out.far (p := ⟨w.heap.size + 2, 0, none⟩) (show w.heap.size ≠ w.heap.size + 2 by omega) (.int .i64 (q1 : Nat))); obtain ⟨e0, e1, e2, e3, e4, e5, e6⟩ := stcell (s := s1) HS1.out)
  clear d0 d1 d2 d3 d4 d5 d6 xo xf e0 e1 e2 e3 e4 e5 e6 HI1 HY1 HC1 HP0_1
  generalize u1.setCell ⟨w.heap.size + 2, 0, none⟩ (.int .i64 (q1 : Nat)) = V1 at *
  refine (HT2.out _).mono ?_
  rintro e w2 ⟨rfl, hb⟩
  have HR2 := Lib.hid (HS1.out.below hb HS1.out.lt)
  have HU2 := Lib.hid (HX1.out.below hb HX1.out.lt)
  have HD2 := Lib.hid (HB1.out.trans (hb.mono HB1.out.size))
  have HV0_2 := Lib.hid (HO0_1.out.below hb HO0_1.out.lt)
  clear hb HS1 HX1 HB1 HO0_1 HT2
  go_wp2_with (refine wpList_store_row rfl 85 (.tmp 5) (.tmp 16) rfl (w.heap.size + 1) 85 _ #[.string B, .int .i64 ((s2).p : Nat), .int .i64 ((s2).e : Nat), .int .i64 ((s2).o : Nat), .int .i64 (q1 : Nat), .string q2, .bool false] rfl rfl HR2.out (size_st _ _ _ _ _ _ _) rfl (by simp [Value.oneCell']) ?_; have HI2 := Lib.hid (box_set HR2.out #[.string B, .int .i64 ((s2).p : Nat), .int .i64 ((s2).e : Nat), .int .i64 ((s2).o : Nat), .int .i64 (q1 : Nat), .string q2, .bool false]); have HY2 := Lib.hid (box_off HU2.out (show w.heap.size + 2 ≠ w.heap.size + 1 by omega) #[.string B, .int .i64 ((s2).p : Nat), .int .i64 ((s2).e : Nat), .int .i64 ((s2).o : Nat), .int .i64 (q1 : Nat), .string q2, .bool false]); have HC2 := Lib.hid (below_putRow HD2.out (show w.heap.size ≤ w.heap.size + 1 by omega) #[.string B, .int .i64 ((s2).p : Nat), .int .i64 ((s2).e : Nat), .int .i64 ((s2).o : Nat), .int .i64 (q1 : Nat), .string q2, .bool false]); have HP0_2 := Lib.hid (box_off HV0_2.out (show w.heap.size ≠ w.heap.size + 1 by omega) #[.string B, .int .i64 ((s2).p : Nat), .int .i64 ((s2).e : Nat), .int .i64 ((s2).o : Nat), .int .i64 (q1 : Nat), .string q2, .bool false]); clear HR2 HU2 HD2 HV0_2; generalize w2.setRow (w.heap.size + 1) #[.string B, .int .i64 ((s2).p : Nat), .int .i64 ((s2).e : Nat), .int .i64 ((s2).o : Nat), .int .i64 (q1 : Nat), .string q2, .bool false] = u2 at *; obtain ⟨d0, d1, d2, d3, d4, d5, d6⟩ := stcell (s := s2) HI2.out; have xo := HY2.out.cell 1; simp only [List.getElem?_toArray, List.getElem?_cons_zero, List.getElem?_cons_succ] at xo; have xf := HY2.out.frozen 1; have HS2 := Lib.hid (HI2.out.far (p := ⟨w.heap.size + 2, 1, none⟩) (show w.heap.size + 1 ≠ w.heap.size + 2 by omega) (.string (q2))); have HX2 : Hid (Box (u2.setCell ⟨w.heap.size + 2, 1, none⟩ (.string (q2))) (w.heap.size + 2) 40 #[.int .i64 (q1 : Nat), .string (q2), .int .i64 0, .int .i64 0, .int .i64 0, .int .i64 0, .bool false, .int .i64 0, .int .i64 0]) := Lib.hid (HY2.out.put 1 (.string (q2))); have HB2 := Lib.hid (HC2.out.setCell (p := ⟨w.heap.size + 2, 1, none⟩) (show w.heap.size ≤ w.heap.size + 2 by omega) (.string (q2))); have HO0_2 := Lib.hid (HP0_2.out.far (p := ⟨w.heap.size + 2, 1, none⟩) (show w.heap.size ≠ w.heap.size + 2 by omega) (.string (q2))); obtain ⟨e0, e1, e2, e3, e4, e5, e6⟩ := stcell (s := s2) HS2.out)
  clear d0 d1 d2 d3 d4 d5 d6 xo xf e0 e1 e2 e3 e4 e5 e6 HI2 HY2 HC2 HP0_2
  generalize u2.setCell ⟨w.heap.size + 2, 1, none⟩ (.string (q2)) = V2 at *
  refine (HT3.out _).mono ?_
  rintro e w3 ⟨rfl, hb⟩
  have HR3 := Lib.hid (HS2.out.below hb HS2.out.lt)
  have HU3 := Lib.hid (HX2.out.below hb HX2.out.lt)
  have HD3 := Lib.hid (HB2.out.trans (hb.mono HB2.out.size))
  have HV0_3 := Lib.hid (HO0_2.out.below hb HO0_2.out.lt)
  clear hb HS2 HX2 HB2 HO0_2 HT3
  go_wp2_with (refine wpList_store_row rfl 85 (.tmp 5) (.tmp 21) rfl (w.heap.size + 1) 85 _ #[.string B, .int .i64 ((s3).p : Nat), .int .i64 ((s3).e : Nat), .int .i64 ((s3).o : Nat), .int .i64 (q3 : Nat), .string q2, .bool false] rfl rfl HR3.out (size_st _ _ _ _ _ _ _) rfl (by simp [Value.oneCell']) ?_; have HI3 := Lib.hid (box_set HR3.out #[.string B, .int .i64 ((s3).p : Nat), .int .i64 ((s3).e : Nat), .int .i64 ((s3).o : Nat), .int .i64 (q3 : Nat), .string q2, .bool false]); have HY3 := Lib.hid (box_off HU3.out (show w.heap.size + 2 ≠ w.heap.size + 1 by omega) #[.string B, .int .i64 ((s3).p : Nat), .int .i64 ((s3).e : Nat), .int .i64 ((s3).o : Nat), .int .i64 (q3 : Nat), .string q2, .bool false]); have HC3 := Lib.hid (below_putRow HD3.out (show w.heap.size ≤ w.heap.size + 1 by omega) #[.string B, .int .i64 ((s3).p : Nat), .int .i64 ((s3).e : Nat), .int .i64 ((s3).o : Nat), .int .i64 (q3 : Nat), .string q2, .bool false]); have HP0_3 := Lib.hid (box_off HV0_3.out (show w.heap.size ≠ w.heap.size + 1 by omega) #[.string B, .int .i64 ((s3).p : Nat), .int .i64 ((s3).e : Nat), .int .i64 ((s3).o : Nat), .int .i64 (q3 : Nat), .string q2, .bool false]); clear HR3 HU3 HD3 HV0_3; generalize w3.setRow (w.heap.size + 1) #[.string B, .int .i64 ((s3).p : Nat), .int .i64 ((s3).e : Nat), .int .i64 ((s3).o : Nat), .int .i64 (q3 : Nat), .string q2, .bool false] = u3 at *; obtain ⟨d0, d1, d2, d3, d4, d5, d6⟩ := stcell (s := s3) HI3.out; have xo := HY3.out.cell 2; simp only [List.getElem?_toArray, List.getElem?_cons_zero, List.getElem?_cons_succ] at xo; have xf := HY3.out.frozen 2; have HS3 := Lib.hid (HI3.out.far (p := ⟨w.heap.size + 2, 2, none⟩) (show w.heap.size + 1 ≠ w.heap.size + 2 by omega) (.int .i64 (q3 : Nat))); have HX3 : Hid (Box (u3.setCell ⟨w.heap.size + 2, 2, none⟩ (.int .i64 (q3 : Nat))) (w.heap.size + 2) 40 #[.int .i64 (q1 : Nat), .string (q2), .int .i64 (q3 : Nat), .int .i64 0, .int .i64 0, .int .i64 0, .bool false, .int .i64 0, .int .i64 0]) := Lib.hid (HY3.out.put 2 (.int .i64 (q3 : Nat))); have HB3 := Lib.hid (HC3.out.setCell (p := ⟨w.heap.size + 2, 2, none⟩) (show w.heap.size ≤ w.heap.size + 2 by omega) (.int .i64 (q3 : Nat))); have HO0_3 := Lib.hid (HP0_3.out.far (p := ⟨w.heap.size + 2, 2, none⟩) (show w.heap.size ≠ w.heap.size + 2 by omega) (.int .i64 (q3 : Nat))); obtain ⟨e0, e1, e2, e3, e4, e5, e6⟩ := stcell (s := s3) HS3.out)
  clear d0 d1 d2 d3 d4 d5 d6 xo xf e0 e1 e2 e3 e4 e5 e6 HI3 HY3 HC3 HP0_3
  generalize u3.setCell ⟨w.heap.size + 2, 2, none⟩ (.int .i64 (q3 : Nat)) = V3 at *
  refine (HT4.out _).mono ?_
  rintro e w4 ⟨rfl, hb⟩
  have HR4 := Lib.hid (HS3.out.below hb HS3.out.lt)
  have HU4 := Lib.hid (HX3.out.below hb HX3.out.lt)
  have HD4 := Lib.hid (HB3.out.trans (hb.mono HB3.out.size))
  have HV0_4 := Lib.hid (HO0_3.out.below hb HO0_3.out.lt)
  clear hb HS3 HX3 HB3 HO0_3 HT4
  go_wp2_with (refine wpList_store_row rfl 85 (.tmp 5) (.tmp 26) rfl (w.heap.size + 1) 85 _ #[.string B, .int .i64 ((s4).p : Nat), .int .i64 ((s4).e : Nat), .int .i64 ((s4).o : Nat), .int .i64 (q4 : Nat), .string q2, .bool false] rfl rfl HR4.out (size_st _ _ _ _ _ _ _) rfl (by simp [Value.oneCell']) ?_; have HI4 := Lib.hid (box_set HR4.out #[.string B, .int .i64 ((s4).p : Nat), .int .i64 ((s4).e : Nat), .int .i64 ((s4).o : Nat), .int .i64 (q4 : Nat), .string q2, .bool false]); have HY4 := Lib.hid (box_off HU4.out (show w.heap.size + 2 ≠ w.heap.size + 1 by omega) #[.string B, .int .i64 ((s4).p : Nat), .int .i64 ((s4).e : Nat), .int .i64 ((s4).o : Nat), .int .i64 (q4 : Nat), .string q2, .bool false]); have HC4 := Lib.hid (below_putRow HD4.out (show w.heap.size ≤ w.heap.size + 1 by omega) #[.string B, .int .i64 ((s4).p : Nat), .int .i64 ((s4).e : Nat), .int .i64 ((s4).o : Nat), .int .i64 (q4 : Nat), .string q2, .bool false]); have HP0_4 := Lib.hid (box_off HV0_4.out (show w.heap.size ≠ w.heap.size + 1 by omega) #[.string B, .int .i64 ((s4).p : Nat), .int .i64 ((s4).e : Nat), .int .i64 ((s4).o : Nat), .int .i64 (q4 : Nat), .string q2, .bool false]); clear HR4 HU4 HD4 HV0_4; generalize w4.setRow (w.heap.size + 1) #[.string B, .int .i64 ((s4).p : Nat), .int .i64 ((s4).e : Nat), .int .i64 ((s4).o : Nat), .int .i64 (q4 : Nat), .string q2, .bool false] = u4 at *; obtain ⟨d0, d1, d2, d3, d4, d5, d6⟩ := stcell (s := s4) HI4.out; have xo := HY4.out.cell 3; simp only [List.getElem?_toArray, List.getElem?_cons_zero, List.getElem?_cons_succ] at xo; have xf := HY4.out.frozen 3; have HS4 := Lib.hid (HI4.out.far (p := ⟨w.heap.size + 2, 3, none⟩) (show w.heap.size + 1 ≠ w.heap.size + 2 by omega) (.int .i64 (q4 : Nat))); have HX4 : Hid (Box (u4.setCell ⟨w.heap.size + 2, 3, none⟩ (.int .i64 (q4 : Nat))) (w.heap.size + 2) 40 #[.int .i64 (q1 : Nat), .string (q2), .int .i64 (q3 : Nat), .int .i64 (q4 : Nat), .int .i64 0, .int .i64 0, .bool false, .int .i64 0, .int .i64 0]) := Lib.hid (HY4.out.put 3 (.int .i64 (q4 : Nat))); have HB4 := Lib.hid (HC4.out.setCell (p := ⟨w.heap.size + 2, 3, none⟩) (show w.heap.size ≤ w.heap.size + 2 by omega) (.int .i64 (q4 : Nat))); have HO0_4 := Lib.hid (HP0_4.out.far (p := ⟨w.heap.size + 2, 3, none⟩) (show w.heap.size ≠ w.heap.size + 2 by omega) (.int .i64 (q4 : Nat))); obtain ⟨e0, e1, e2, e3, e4, e5, e6⟩ := stcell (s := s4) HS4.out)
  clear d0 d1 d2 d3 d4 d5 d6 xo xf e0 e1 e2 e3 e4 e5 e6 HI4 HY4 HC4 HP0_4
  generalize u4.setCell ⟨w.heap.size + 2, 3, none⟩ (.int .i64 (q4 : Nat)) = V4 at *
  refine (HT5.out _).mono ?_
  rintro e w5 ⟨rfl, hb⟩
  have HR5 := Lib.hid (HS4.out.below hb HS4.out.lt)
  have HU5 := Lib.hid (HX4.out.below hb HX4.out.lt)
  have HD5 := Lib.hid (HB4.out.trans (hb.mono HB4.out.size))
  have HV0_5 := Lib.hid (HO0_4.out.below hb HO0_4.out.lt)
  clear hb HS4 HX4 HB4 HO0_4 HT5
  go_wp2_with (refine wpList_store_row rfl 85 (.tmp 5) (.tmp 31) rfl (w.heap.size + 1) 85 _ #[.string B, .int .i64 ((s5).p : Nat), .int .i64 ((s5).e : Nat), .int .i64 ((s5).o : Nat), .int .i64 (q5 : Nat), .string q2, .bool false] rfl rfl HR5.out (size_st _ _ _ _ _ _ _) rfl (by simp [Value.oneCell']) ?_; have HI5 := Lib.hid (box_set HR5.out #[.string B, .int .i64 ((s5).p : Nat), .int .i64 ((s5).e : Nat), .int .i64 ((s5).o : Nat), .int .i64 (q5 : Nat), .string q2, .bool false]); have HY5 := Lib.hid (box_off HU5.out (show w.heap.size + 2 ≠ w.heap.size + 1 by omega) #[.string B, .int .i64 ((s5).p : Nat), .int .i64 ((s5).e : Nat), .int .i64 ((s5).o : Nat), .int .i64 (q5 : Nat), .string q2, .bool false]); have HC5 := Lib.hid (below_putRow HD5.out (show w.heap.size ≤ w.heap.size + 1 by omega) #[.string B, .int .i64 ((s5).p : Nat), .int .i64 ((s5).e : Nat), .int .i64 ((s5).o : Nat), .int .i64 (q5 : Nat), .string q2, .bool false]); have HP0_5 := Lib.hid (box_off HV0_5.out (show w.heap.size ≠ w.heap.size + 1 by omega) #[.string B, .int .i64 ((s5).p : Nat), .int .i64 ((s5).e : Nat), .int .i64 ((s5).o : Nat), .int .i64 (q5 : Nat), .string q2, .bool false]); clear HR5 HU5 HD5 HV0_5; generalize w5.setRow (w.heap.size + 1) #[.string B, .int .i64 ((s5).p : Nat), .int .i64 ((s5).e : Nat), .int .i64 ((s5).o : Nat), .int .i64 (q5 : Nat), .string q2, .bool false] = u5 at *; obtain ⟨d0, d1, d2, d3, d4, d5, d6⟩ := stcell (s := s5) HI5.out; have xo := HY5.out.cell 4; simp only [List.getElem?_toArray, List.getElem?_cons_zero, List.getElem?_cons_succ] at xo; have xf := HY5.out.frozen 4; have HS5 := Lib.hid (HI5.out.far (p := ⟨w.heap.size + 2, 4, none⟩) (show w.heap.size + 1 ≠ w.heap.size + 2 by omega) (.int .i64 (q5 : Nat))); have HX5 : Hid (Box (u5.setCell ⟨w.heap.size + 2, 4, none⟩ (.int .i64 (q5 : Nat))) (w.heap.size + 2) 40 #[.int .i64 (q1 : Nat), .string (q2), .int .i64 (q3 : Nat), .int .i64 (q4 : Nat), .int .i64 (q5 : Nat), .int .i64 0, .bool false, .int .i64 0, .int .i64 0]) := Lib.hid (HY5.out.put 4 (.int .i64 (q5 : Nat))); have HB5 := Lib.hid (HC5.out.setCell (p := ⟨w.heap.size + 2, 4, none⟩) (show w.heap.size ≤ w.heap.size + 2 by omega) (.int .i64 (q5 : Nat))); have HO0_5 := Lib.hid (HP0_5.out.far (p := ⟨w.heap.size + 2, 4, none⟩) (show w.heap.size ≠ w.heap.size + 2 by omega) (.int .i64 (q5 : Nat))); obtain ⟨e0, e1, e2, e3, e4, e5, e6⟩ := stcell (s := s5) HS5.out)
  clear d0 d1 d2 d3 d4 d5 d6 xo xf e0 e1 e2 e3 e4 e5 e6 HI5 HY5 HC5 HP0_5
  generalize u5.setCell ⟨w.heap.size + 2, 4, none⟩ (.int .i64 (q5 : Nat)) = V5 at *
  refine (HT6.out _).mono ?_
  rintro e w6 ⟨rfl, hb⟩
  have HR6 := Lib.hid (HS5.out.below hb HS5.out.lt)
  have HU6 := Lib.hid (HX5.out.below hb HX5.out.lt)
  have HD6 := Lib.hid (HB5.out.trans (hb.mono HB5.out.size))
  have HV0_6 := Lib.hid (HO0_5.out.below hb HO0_5.out.lt)
  clear hb HS5 HX5 HB5 HO0_5 HT6
  go_wp2_with (refine wpList_store_row rfl 85 (.tmp 5) (.tmp 36) rfl (w.heap.size + 1) 85 _ #[.string B, .int .i64 ((s6).p : Nat), .int .i64 ((s6).e : Nat), .int .i64 ((s6).o : Nat), .int .i64 (q6 : Nat), .string q2, .bool false] rfl rfl HR6.out (size_st _ _ _ _ _ _ _) rfl (by simp [Value.oneCell']) ?_; have HI6 := Lib.hid (box_set HR6.out #[.string B, .int .i64 ((s6).p : Nat), .int .i64 ((s6).e : Nat), .int .i64 ((s6).o : Nat), .int .i64 (q6 : Nat), .string q2, .bool false]); have HY6 := Lib.hid (box_off HU6.out (show w.heap.size + 2 ≠ w.heap.size + 1 by omega) #[.string B, .int .i64 ((s6).p : Nat), .int .i64 ((s6).e : Nat), .int .i64 ((s6).o : Nat), .int .i64 (q6 : Nat), .string q2, .bool false]); have HC6 := Lib.hid (below_putRow HD6.out (show w.heap.size ≤ w.heap.size + 1 by omega) #[.string B, .int .i64 ((s6).p : Nat), .int .i64 ((s6).e : Nat), .int .i64 ((s6).o : Nat), .int .i64 (q6 : Nat), .string q2, .bool false]); have HP0_6 := Lib.hid (box_off HV0_6.out (show w.heap.size ≠ w.heap.size + 1 by omega) #[.string B, .int .i64 ((s6).p : Nat), .int .i64 ((s6).e : Nat), .int .i64 ((s6).o : Nat), .int .i64 (q6 : Nat), .string q2, .bool false]); clear HR6 HU6 HD6 HV0_6; generalize w6.setRow (w.heap.size + 1) #[.string B, .int .i64 ((s6).p : Nat), .int .i64 ((s6).e : Nat), .int .i64 ((s6).o : Nat), .int .i64 (q6 : Nat), .string q2, .bool false] = u6 at *; obtain ⟨d0, d1, d2, d3, d4, d5, d6⟩ := stcell (s := s6) HI6.out; have xo := HY6.out.cell 5; simp only [List.getElem?_toArray, List.getElem?_cons_zero, List.getElem?_cons_succ] at xo; have xf := HY6.out.frozen 5; have HS6 := Lib.hid (HI6.out.far (p := ⟨w.heap.size + 2, 5, none⟩) (show w.heap.size + 1 ≠ w.heap.size + 2 by omega) (.int .i64 (q6 : Nat))); have HX6 : Hid (Box (u6.setCell ⟨w.heap.size + 2, 5, none⟩ (.int .i64 (q6 : Nat))) (w.heap.size + 2) 40 #[.int .i64 (q1 : Nat), .string (q2), .int .i64 (q3 : Nat), .int .i64 (q4 : Nat), .int .i64 (q5 : Nat), .int .i64 (q6 : Nat), .bool false, .int .i64 0, .int .i64 0]) := Lib.hid (HY6.out.put 5 (.int .i64 (q6 : Nat))); have HB6 := Lib.hid (HC6.out.setCell (p := ⟨w.heap.size + 2, 5, none⟩) (show w.heap.size ≤ w.heap.size + 2 by omega) (.int .i64 (q6 : Nat))); have HO0_6 := Lib.hid (HP0_6.out.far (p := ⟨w.heap.size + 2, 5, none⟩) (show w.heap.size ≠ w.heap.size + 2 by omega) (.int .i64 (q6 : Nat))); obtain ⟨e0, e1, e2, e3, e4, e5, e6⟩ := stcell (s := s6) HS6.out)
  clear d0 d1 d2 d3 d4 d5 d6 xo xf e0 e1 e2 e3 e4 e5 e6 HI6 HY6 HC6 HP0_6
  generalize u6.setCell ⟨w.heap.size + 2, 5, none⟩ (.int .i64 (q6 : Nat)) = V6 at *
  refine (HT7.out _).mono ?_
  rintro e w7 ⟨rfl, hb⟩
  have HR7 := Lib.hid (HS6.out.below hb HS6.out.lt)
  have HU7 := Lib.hid (HX6.out.below hb HX6.out.lt)
  have HD7 := Lib.hid (HB6.out.trans (hb.mono HB6.out.size))
  have HV0_7 := Lib.hid (HO0_6.out.below hb HO0_6.out.lt)
  clear hb HS6 HX6 HB6 HO0_6 HT7
  go_wp2_with (refine wpList_store_row rfl 85 (.tmp 5) (.tmp 41) rfl (w.heap.size + 1) 85 _ #[.string B, .int .i64 ((s7).p : Nat), .int .i64 ((s7).e : Nat), .int .i64 ((s7).o : Nat), .int .i64 (q6 : Nat), .string q2, .bool q7] rfl rfl HR7.out (size_st _ _ _ _ _ _ _) rfl (by simp [Value.oneCell']) ?_; have HI7 := Lib.hid (box_set HR7.out #[.string B, .int .i64 ((s7).p : Nat), .int .i64 ((s7).e : Nat), .int .i64 ((s7).o : Nat), .int .i64 (q6 : Nat), .string q2, .bool q7]); have HY7 := Lib.hid (box_off HU7.out (show w.heap.size + 2 ≠ w.heap.size + 1 by omega) #[.string B, .int .i64 ((s7).p : Nat), .int .i64 ((s7).e : Nat), .int .i64 ((s7).o : Nat), .int .i64 (q6 : Nat), .string q2, .bool q7]); have HC7 := Lib.hid (below_putRow HD7.out (show w.heap.size ≤ w.heap.size + 1 by omega) #[.string B, .int .i64 ((s7).p : Nat), .int .i64 ((s7).e : Nat), .int .i64 ((s7).o : Nat), .int .i64 (q6 : Nat), .string q2, .bool q7]); have HP0_7 := Lib.hid (box_off HV0_7.out (show w.heap.size ≠ w.heap.size + 1 by omega) #[.string B, .int .i64 ((s7).p : Nat), .int .i64 ((s7).e : Nat), .int .i64 ((s7).o : Nat), .int .i64 (q6 : Nat), .string q2, .bool q7]); clear HR7 HU7 HD7 HV0_7; generalize w7.setRow (w.heap.size + 1) #[.string B, .int .i64 ((s7).p : Nat), .int .i64 ((s7).e : Nat), .int .i64 ((s7).o : Nat), .int .i64 (q6 : Nat), .string q2, .bool q7] = u7 at *; obtain ⟨d0, d1, d2, d3, d4, d5, d6⟩ := stcell (s := s7) HI7.out; have xo := HY7.out.cell 6; simp only [List.getElem?_toArray, List.getElem?_cons_zero, List.getElem?_cons_succ] at xo; have xf := HY7.out.frozen 6; have HS7 := Lib.hid (HI7.out.far (p := ⟨w.heap.size + 2, 6, none⟩) (show w.heap.size + 1 ≠ w.heap.size + 2 by omega) (.bool (q7))); have HX7 : Hid (Box (u7.setCell ⟨w.heap.size + 2, 6, none⟩ (.bool (q7))) (w.heap.size + 2) 40 #[.int .i64 (q1 : Nat), .string (q2), .int .i64 (q3 : Nat), .int .i64 (q4 : Nat), .int .i64 (q5 : Nat), .int .i64 (q6 : Nat), .bool (q7), .int .i64 0, .int .i64 0]) := Lib.hid (HY7.out.put 6 (.bool (q7))); have HB7 := Lib.hid (HC7.out.setCell (p := ⟨w.heap.size + 2, 6, none⟩) (show w.heap.size ≤ w.heap.size + 2 by omega) (.bool (q7))); have HO0_7 := Lib.hid (HP0_7.out.far (p := ⟨w.heap.size + 2, 6, none⟩) (show w.heap.size ≠ w.heap.size + 2 by omega) (.bool (q7))); obtain ⟨e0, e1, e2, e3, e4, e5, e6⟩ := stcell (s := s7) HS7.out)
  clear d0 d1 d2 d3 d4 d5 d6 xo xf e0 e1 e2 e3 e4 e5 e6 HI7 HY7 HC7 HP0_7
  generalize u7.setCell ⟨w.heap.size + 2, 6, none⟩ (.bool (q7)) = V7 at *
  refine (HT8.out _).mono ?_
  rintro e w8 ⟨rfl, hb⟩
  have HR8 := Lib.hid (HS7.out.below hb HS7.out.lt)
  have HU8 := Lib.hid (HX7.out.below hb HX7.out.lt)
  have HD8 := Lib.hid (HB7.out.trans (hb.mono HB7.out.size))
  have HV0_8 := Lib.hid (HO0_7.out.below hb HO0_7.out.lt)
  clear hb HS7 HX7 HB7 HO0_7 HT8
  go_wp2_with (refine wpList_store_row rfl 85 (.tmp 5) (.tmp 46) rfl (w.heap.size + 1) 85 _ #[.string B, .int .i64 ((s8).p : Nat), .int .i64 ((s8).e : Nat), .int .i64 ((s8).o : Nat), .int .i64 (q8 : Nat), .string q2, .bool q7] rfl rfl HR8.out (size_st _ _ _ _ _ _ _) rfl (by simp [Value.oneCell']) ?_; have HI8 := Lib.hid (box_set HR8.out #[.string B, .int .i64 ((s8).p : Nat), .int .i64 ((s8).e : Nat), .int .i64 ((s8).o : Nat), .int .i64 (q8 : Nat), .string q2, .bool q7]); have HY8 := Lib.hid (box_off HU8.out (show w.heap.size + 2 ≠ w.heap.size + 1 by omega) #[.string B, .int .i64 ((s8).p : Nat), .int .i64 ((s8).e : Nat), .int .i64 ((s8).o : Nat), .int .i64 (q8 : Nat), .string q2, .bool q7]); have HC8 := Lib.hid (below_putRow HD8.out (show w.heap.size ≤ w.heap.size + 1 by omega) #[.string B, .int .i64 ((s8).p : Nat), .int .i64 ((s8).e : Nat), .int .i64 ((s8).o : Nat), .int .i64 (q8 : Nat), .string q2, .bool q7]); have HP0_8 := Lib.hid (box_off HV0_8.out (show w.heap.size ≠ w.heap.size + 1 by omega) #[.string B, .int .i64 ((s8).p : Nat), .int .i64 ((s8).e : Nat), .int .i64 ((s8).o : Nat), .int .i64 (q8 : Nat), .string q2, .bool q7]); clear HR8 HU8 HD8 HV0_8; generalize w8.setRow (w.heap.size + 1) #[.string B, .int .i64 ((s8).p : Nat), .int .i64 ((s8).e : Nat), .int .i64 ((s8).o : Nat), .int .i64 (q8 : Nat), .string q2, .bool q7] = u8 at *; obtain ⟨d0, d1, d2, d3, d4, d5, d6⟩ := stcell (s := s8) HI8.out; have xo := HY8.out.cell 7; simp only [List.getElem?_toArray, List.getElem?_cons_zero, List.getElem?_cons_succ] at xo; have xf := HY8.out.frozen 7; have HS8 := Lib.hid (HI8.out.far (p := ⟨w.heap.size + 2, 7, none⟩) (show w.heap.size + 1 ≠ w.heap.size + 2 by omega) (.int .i64 (q8 : Nat))); have HX8 : Hid (Box (u8.setCell ⟨w.heap.size + 2, 7, none⟩ (.int .i64 (q8 : Nat))) (w.heap.size + 2) 40 #[.int .i64 (q1 : Nat), .string (q2), .int .i64 (q3 : Nat), .int .i64 (q4 : Nat), .int .i64 (q5 : Nat), .int .i64 (q6 : Nat), .bool (q7), .int .i64 (q8 : Nat), .int .i64 0]) := Lib.hid (HY8.out.put 7 (.int .i64 (q8 : Nat))); have HB8 := Lib.hid (HC8.out.setCell (p := ⟨w.heap.size + 2, 7, none⟩) (show w.heap.size ≤ w.heap.size + 2 by omega) (.int .i64 (q8 : Nat))); have HO0_8 := Lib.hid (HP0_8.out.far (p := ⟨w.heap.size + 2, 7, none⟩) (show w.heap.size ≠ w.heap.size + 2 by omega) (.int .i64 (q8 : Nat))); obtain ⟨e0, e1, e2, e3, e4, e5, e6⟩ := stcell (s := s8) HS8.out)
  clear d0 d1 d2 d3 d4 d5 d6 xo xf e0 e1 e2 e3 e4 e5 e6 HI8 HY8 HC8 HP0_8
  generalize u8.setCell ⟨w.heap.size + 2, 7, none⟩ (.int .i64 (q8 : Nat)) = V8 at *
  refine (HT9.out _).mono ?_
  rintro e w9 ⟨rfl, hb⟩
  have HR9 := Lib.hid (HS8.out.below hb HS8.out.lt)
  have HU9 := Lib.hid (HX8.out.below hb HX8.out.lt)
  have HD9 := Lib.hid (HB8.out.trans (hb.mono HB8.out.size))
  have HV0_9 := Lib.hid (HO0_8.out.below hb HO0_8.out.lt)
  clear hb HS8 HX8 HB8 HO0_8 HT9
  go_wp2_with (refine wpList_store_row rfl 85 (.tmp 5) (.tmp 51) rfl (w.heap.size + 1) 85 _ #[.string B, .int .i64 ((s9).p : Nat), .int .i64 ((s9).e : Nat), .int .i64 ((s9).o : Nat), .int .i64 (q9 : Nat), .string q2, .bool q7] rfl rfl HR9.out (size_st _ _ _ _ _ _ _) rfl (by simp [Value.oneCell']) ?_; have HI9 := Lib.hid (box_set HR9.out #[.string B, .int .i64 ((s9).p : Nat), .int .i64 ((s9).e : Nat), .int .i64 ((s9).o : Nat), .int .i64 (q9 : Nat), .string q2, .bool q7]); have HY9 := Lib.hid (box_off HU9.out (show w.heap.size + 2 ≠ w.heap.size + 1 by omega) #[.string B, .int .i64 ((s9).p : Nat), .int .i64 ((s9).e : Nat), .int .i64 ((s9).o : Nat), .int .i64 (q9 : Nat), .string q2, .bool q7]); have HC9 := Lib.hid (below_putRow HD9.out (show w.heap.size ≤ w.heap.size + 1 by omega) #[.string B, .int .i64 ((s9).p : Nat), .int .i64 ((s9).e : Nat), .int .i64 ((s9).o : Nat), .int .i64 (q9 : Nat), .string q2, .bool q7]); have HP0_9 := Lib.hid (box_off HV0_9.out (show w.heap.size ≠ w.heap.size + 1 by omega) #[.string B, .int .i64 ((s9).p : Nat), .int .i64 ((s9).e : Nat), .int .i64 ((s9).o : Nat), .int .i64 (q9 : Nat), .string q2, .bool q7]); clear HR9 HU9 HD9 HV0_9; generalize w9.setRow (w.heap.size + 1) #[.string B, .int .i64 ((s9).p : Nat), .int .i64 ((s9).e : Nat), .int .i64 ((s9).o : Nat), .int .i64 (q9 : Nat), .string q2, .bool q7] = u9 at *; obtain ⟨d0, d1, d2, d3, d4, d5, d6⟩ := stcell (s := s9) HI9.out; have xo := HY9.out.cell 8; simp only [List.getElem?_toArray, List.getElem?_cons_zero, List.getElem?_cons_succ] at xo; have xf := HY9.out.frozen 8; have HS9 := Lib.hid (HI9.out.far (p := ⟨w.heap.size + 2, 8, none⟩) (show w.heap.size + 1 ≠ w.heap.size + 2 by omega) (.int .i64 (q9 : Nat))); have HX9 : Hid (Box (u9.setCell ⟨w.heap.size + 2, 8, none⟩ (.int .i64 (q9 : Nat))) (w.heap.size + 2) 40 #[.int .i64 (q1 : Nat), .string (q2), .int .i64 (q3 : Nat), .int .i64 (q4 : Nat), .int .i64 (q5 : Nat), .int .i64 (q6 : Nat), .bool (q7), .int .i64 (q8 : Nat), .int .i64 (q9 : Nat)]) := Lib.hid (HY9.out.put 8 (.int .i64 (q9 : Nat))); have HB9 := Lib.hid (HC9.out.setCell (p := ⟨w.heap.size + 2, 8, none⟩) (show w.heap.size ≤ w.heap.size + 2 by omega) (.int .i64 (q9 : Nat))); have HO0_9 := Lib.hid (HP0_9.out.far (p := ⟨w.heap.size + 2, 8, none⟩) (show w.heap.size ≠ w.heap.size + 2 by omega) (.int .i64 (q9 : Nat))); obtain ⟨e0, e1, e2, e3, e4, e5, e6⟩ := stcell (s := s9) HS9.out)
  clear d0 d1 d2 d3 d4 d5 d6 xo xf e0 e1 e2 e3 e4 e5 e6 HI9 HY9 HC9 HP0_9
  generalize u9.setCell ⟨w.heap.size + 2, 8, none⟩ (.int .i64 (q9 : Nat)) = V9 at *
  refine (HTe.out _).mono ?_
  rintro e wz ⟨rfl, hb⟩
  have HSz := Lib.hid (HS9.out.below hb HS9.out.lt)
  have HXz := Lib.hid (show Box wz (w.heap.size + 2) 40 #[.int .i64 (q1 : Nat), .string (q2), .int .i64 (q3 : Nat), .int .i64 (q4 : Nat), .int .i64 (q5 : Nat), .int .i64 (q6 : Nat), .bool (q7), .int .i64 (q8 : Nat), .int .i64 (q9 : Nat)] from HX9.out.below hb HX9.out.lt)
  have HOz := Lib.hid (HO0_9.out.below hb HO0_9.out.lt)
  have HBz := Lib.hid (HB9.out.trans (hb.mono HB9.out.size))
  clear hb HTe
  have HSt := Lib.hid (box_set HSz.out #[.string B, .int .i64 ((T).p : Nat), .int .i64 ((T).e : Nat), .int .i64 ((T).o : Nat), .int .i64 (q9 : Nat), .string q2, .bool q7])
  have HXt := Lib.hid (box_off HXz.out (show w.heap.size + 2 ≠ w.heap.size + 1 by omega) #[.string B, .int .i64 ((T).p : Nat), .int .i64 ((T).e : Nat), .int .i64 ((T).o : Nat), .int .i64 (q9 : Nat), .string q2, .bool q7])
  have HOt := Lib.hid (box_off HOz.out (show w.heap.size ≠ w.heap.size + 1 by omega) #[.string B, .int .i64 ((T).p : Nat), .int .i64 ((T).e : Nat), .int .i64 ((T).o : Nat), .int .i64 (q9 : Nat), .string q2, .bool q7])
  have HBt := Lib.hid (below_putRow HBz.out (show w.heap.size ≤ w.heap.size + 1 by omega) #[.string B, .int .i64 ((T).p : Nat), .int .i64 ((T).e : Nat), .int .i64 ((T).o : Nat), .int .i64 (q9 : Nat), .string q2, .bool q7])
  by_cases hE : T.e = 0
  · have hz : ((T.e : Int) != 0) = false := by simp [hE]
    have HE := Lib.hid hE
    clear hE
    go_wp2_with (first
      | (refine wpList_store_row rfl 85 (.tmp 5) (.tmp 56) rfl (w.heap.size + 1) 85 _ #[.string B, .int .i64 ((T).p : Nat), .int .i64 ((T).e : Nat), .int .i64 ((T).o : Nat), .int .i64 (q9 : Nat), .string q2, .bool q7] rfl rfl HSz.out (size_st _ _ _ _ _ _ _) rfl (by simp [Value.oneCell']) ?_; generalize wz.setRow (w.heap.size + 1) #[.string B, .int .i64 ((T).p : Nat), .int .i64 ((T).e : Nat), .int .i64 ((T).o : Nat), .int .i64 (q9 : Nat), .string q2, .bool q7] = u at *; obtain ⟨d0, d1, d2, d3, d4, d5, d6⟩ := stcell (s := T) HSt.out)
      | (refine wpList_load_row rfl 40 (.tmp 6) rfl (w.heap.size + 2) 40 #[.int .i64 (q1 : Nat), .string (q2), .int .i64 (q3 : Nat), .int .i64 (q4 : Nat), .int .i64 (q5 : Nat), .int .i64 (q6 : Nat), .bool (q7), .int .i64 (q8 : Nat), .int .i64 (q9 : Nat)] _ rfl HXt.out Try.underlying40 rfl (by show (Try.prog.info? 40).map (·.size) = some 9; kernel_rfl) ?_)
      | (refine wpList_store_row rfl 40 (.tmp 2) (.tmp 65) rfl (w.heap.size) 40 _ #[.int .i64 (q1 : Nat), .string (q2), .int .i64 (q3 : Nat), .int .i64 (q4 : Nat), .int .i64 (q5 : Nat), .int .i64 (q6 : Nat), .bool (q7), .int .i64 (q8 : Nat), .int .i64 (q9 : Nat)] rfl rfl HOt.out (by show (Try.prog.info? 40).map (·.size) = some 9; kernel_rfl) rfl (by simp [Value.oneCell']) ?_))
    refine bodyPost_ret (res_ctt rfl _ _ (w.heap.size) #[.int .i64 (q1 : Nat), .string (q2), .int .i64 (q3 : Nat), .int .i64 (q4 : Nat), .int .i64 (q5 : Nat), .int .i64 (q6 : Nat), .bool (q7), .int .i64 (q8 : Nat), .int .i64 (q9 : Nat)] Try.underlying40 (by show (Try.prog.info? 40).map (·.size) = some 9; kernel_rfl) rfl (box_set HOt.out _)) rfl ⟨by rw [HA.out, takenV_yes HE.out]; rfl, ?_⟩
    exact below_putRow HBt.out (Nat.le_refl _) _
  · have hz : ((T.e : Int) != 0) = true := by simpa using hE
    have HE := Lib.hid hE
    clear hE
    go_wp2_with (refine wpList_store_row rfl 85 (.tmp 5) (.tmp 56) rfl (w.heap.size + 1) 85 _ #[.string B, .int .i64 ((T).p : Nat), .int .i64 ((T).e : Nat), .int .i64 ((T).o : Nat), .int .i64 (q9 : Nat), .string q2, .bool q7] rfl rfl HSz.out (size_st _ _ _ _ _ _ _) rfl (by simp [Value.oneCell']) ?_; generalize wz.setRow (w.heap.size + 1) #[.string B, .int .i64 ((T).p : Nat), .int .i64 ((T).e : Nat), .int .i64 ((T).o : Nat), .int .i64 (q9 : Nat), .string q2, .bool q7] = u at *; obtain ⟨d0, d1, d2, d3, d4, d5, d6⟩ := stcell (s := T) HSt.out)
    have z2 : ∀ v, Box v (w.heap.size + 1) 85 #[.string B, .int .i64 ((T).p : Nat), .int .i64 ((T).e : Nat), .int .i64 ((T).o : Nat), .int .i64 (q9 : Nat), .string q2, .bool q7] → v.cell? ⟨w.heap.size + 1, 2, none⟩ = some (.int .i64 (T.e : Nat)) := fun v h => h.cell 2
    have z3 : ∀ v, Box v (w.heap.size + 1) 85 #[.string B, .int .i64 ((T).p : Nat), .int .i64 ((T).e : Nat), .int .i64 ((T).o : Nat), .int .i64 (q9 : Nat), .string q2, .bool q7] → v.cell? ⟨w.heap.size + 1, 3, none⟩ = some (.int .i64 (T.o : Nat)) := fun v h => h.cell 3
    refine wp_region_held_drew (S := fun v => Box v (w.heap.size + 1) 85 #[.string B, .int .i64 ((T).p : Nat), .int .i64 ((T).e : Nat), .int .i64 ((T).o : Nat), .int .i64 (q9 : Nat), .string q2, .bool q7]) (by kernel_rfl) (HSt.out.drewN 1) (fun hHeld => ?_)
    refine wpAnyH_take (i := 0) (oi := ⟨some 60, _, _, _, _, _⟩) (v := ?_) rfl (by kernel_rfl) (by kernel_rfl) (by kernel_rfl) (fun _ _ _ h => h) (Or.inl ⟨by rfl, ?_⟩) (by assumption) ?_
    rotate_left
    · (intro u hu; (try dsimp only at hu); go_simp; (try with_reducible rfl))
    (try simp only [Act.put, List.setIfInBounds_toArray, List.set_cons_zero, List.set_cons_succ])
    refine wpAnyH_take (i := 1) (oi := ⟨some 61, _, _, _, _, _⟩) (v := ?_) rfl (by kernel_rfl) (by kernel_rfl) (by kernel_rfl) (fun _ _ _ h => h) (Or.inl ⟨by rfl, ?_⟩) (by assumption) ?_
    rotate_left
    · (intro u hu; (try dsimp only at hu); go_simp; (try with_reducible rfl))
    (try simp only [Act.put, List.setIfInBounds_toArray, List.set_cons_zero, List.set_cons_succ])
    refine wpAnyH_take (i := 2) (oi := ⟨some 62, _, _, _, _, _⟩) (v := ?_) rfl (by kernel_rfl) (by kernel_rfl) (by kernel_rfl) (fun _ _ _ h => h) (Or.inl ⟨by rfl, ?_⟩) (by assumption) ?_
    rotate_left
    · (intro u hu; (try dsimp only at hu); go_simp; (try with_reducible rfl))
    (try simp only [Act.put, List.setIfInBounds_toArray, List.set_cons_zero, List.set_cons_succ])
    refine wpAnyH_take (i := 3) (oi := ⟨some 63, _, _, _, _, _⟩) (v := ?_) rfl (by kernel_rfl) (by kernel_rfl) (by kernel_rfl) (fun _ _ _ h => h) (Or.inl ⟨by rfl, ?_⟩) (by assumption) ?_
    rotate_left
    · (intro u hu; (try dsimp only at hu); go_simp; (try with_reducible rfl))
    (try simp only [Act.put, List.setIfInBounds_toArray, List.set_cons_zero, List.set_cons_succ])
    refine wpAnyH_take (i := 4) (oi := ⟨some 64, _, _, _, _, _⟩) (v := ?_) rfl (by kernel_rfl) (by kernel_rfl) (by kernel_rfl) (fun _ _ _ h => h) (Or.inl ⟨by rfl, ?_⟩) (by assumption) ?_
    rotate_left
    · (intro u hu; (try dsimp only at hu); go_simp; (try with_reducible rfl))
    (try simp only [Act.put, List.setIfInBounds_toArray, List.set_cons_zero, List.set_cons_succ])
    refine wpAnyH_ready (rs := [5]) (by decide +kernel) (by simp) ?_
    refine AllReadyH.cons (o := ⟨none, _, _, _, _, _⟩) rfl (fun K hK => ?_) AllReadyH.nil
    rw [if_pos (by rfl)]
    refine oper_store 40 _ _ rfl (w.heap.size) 40 _ #[.int .i64 0, .string ⟨#[]⟩, .int .i64 0, .int .i64 0, .int .i64 0, .int .i64 0, .bool false, .int .i64 0, .int .i64 0] rfl rfl (HOt.out.drewN 1) (by show (Try.prog.info? 40).map (·.size) = some 9; kernel_rfl) rfl (by simp [Value.oneCell']) ?_
    have hA := Lib.hid (box_off (HSt.out.drewN 1) (show w.heap.size + 1 ≠ w.heap.size by omega) #[.int .i64 0, .string ⟨#[]⟩, .int .i64 0, .int .i64 0, .int .i64 0, .int .i64 0, .bool false, .int .i64 0, .int .i64 0])
    refine hK.out _ _ ?_ (fun hHeld => ?_)
    · exact hA.out
    clear hK K
    (try simp only [Act.put])
    refine wpAnyH_take (i := 6) (oi := ⟨some 3, _, _, _, _, _⟩) (v := ?_) rfl (by kernel_rfl) (by kernel_rfl) (by kernel_rfl) (fun _ _ _ h => h) (Or.inl ⟨by rfl, ?_⟩) (by assumption) ?_
    rotate_left
    · (intro u hu; (try dsimp only at hu); go_simp; (try with_reducible rfl))
    (try simp only [Act.put, List.setIfInBounds_toArray, List.set_cons_zero, List.set_cons_succ])
    refine wpAnyH_take (i := 7) (oi := ⟨some 4, _, _, _, _, _⟩) (v := ?_) rfl (by kernel_rfl) (by kernel_rfl) (by kernel_rfl) (fun _ _ _ h => h) (Or.inl ⟨by rfl, ?_⟩) (by assumption) ?_
    rotate_left
    · (intro u hu; (try dsimp only at hu); go_simp; (try with_reducible rfl))
    (try simp only [Act.put, List.setIfInBounds_toArray, List.set_cons_zero, List.set_cons_succ])
    refine wpAnyH_done (by kernel_rfl) ?_ _
    clear z2 z3
    go_wp2_with fail
    refine bodyPost_ret (res_ctt rfl _ _ (w.heap.size) #[.int .i64 0, .string ⟨#[]⟩, .int .i64 0, .int .i64 0, .int .i64 0, .int .i64 0, .bool false, .int .i64 0, .int .i64 0] Try.underlying40 (by show (Try.prog.info? 40).map (·.size) = some 9; kernel_rfl) rfl (box_set (HOt.out.drewN 1) _)) rfl ⟨by rw [HA.out, takenV_err HE.out]; rfl, ?_⟩
    exact below_putRow (Below.drew HBt.out) (Nat.le_refl _) _
end Go.Proofs.Ytihkadbcjeohjaa.Co

namespace Go.Proofs.Ytihkadbcjeohjaa.Co
open Go.RowKit
open Go.Proofs.Ytihkadbcjeohjaa.El
open Go.Proofs.Ytihkadbcjeohjaa.Df
open Go.Proofs.Ytihkadbcjeohjaa.Bo (P Made ret_int ret_bool)
open Go.Proofs.Ytihkadbcjeohjaa.Sa (Sg Rp)

section
variable {b u v : World} {row : Option Nat}
theorem grown_call (h : b.grownBy u row) (hb : Below u.heap.size u v) : b.grownBy v row :=
  ⟨hb.os.trans h.os, hb.tape.trans h.tape, hb.output.trans h.output, Nat.le_trans h.size hb.size, fun i hi hx => (hb.block i (Nat.lt_of_lt_of_le hi h.size)).trans (h.block i hi hx)⟩
theorem grown_row {g : Nat} (h : b.grownBy u (some g)) (cs : Array Value) : b.grownBy (u.setRow g cs) (some g) :=
  ⟨h.os, h.tape, h.output, by rw [setRow_size]; exact h.size, fun i hi hx => (setRow_other u g i cs (fun e => hx (by rw [e]))).trans (h.block i hi hx)⟩
theorem grown_part {g : Nat} (h : b.grownBy u row) (hg : b.heap.size ≤ g) (cs : Array Value) : b.grownBy (u.setRow g cs) row :=
  ⟨h.os, h.tape, h.output, by rw [setRow_size]; exact h.size, fun i hi hx => (setRow_other u g i cs (by omega)).trans (h.block i hi hx)⟩
theorem grown_put {g : Nat} (h : b.grownBy u row) (hg : b.heap.size ≤ g) (i : Nat) (x : Value) : b.grownBy (u.setCell ⟨g, i, none⟩ x) row :=
  ⟨h.os, h.tape, h.output, by simpa [World.setCell] using h.size, fun j hj hx => (Below.heap_setCell u ⟨g, i, none⟩ x j (show j ≠ g by omega)).trans (h.block j hj hx)⟩
theorem grown_al (h : b.grownBy u row) (o : Obj) : b.grownBy (u.alloc o) row := grown_call h ((Below.refl _ u).alloc (Nat.le_refl _) o)
end
theorem Ok.step {B : ByteArray} {s : Ps} (h : Ok B s) : Ok B (stepS B.data.toList s) := h.txt.txt.num.plan.plan.num
theorem Ok.steps {B : ByteArray} : ∀ (k : Nat) {s : Ps}, Ok B s → Ok B (stepsS B.data.toList k s)
  | 0, _, h => h
  | k + 1, _, h => Ok.steps k h.step
/-- where the loop stands -/
structure Rl (w u : World) (B : ByteArray) (t : Ps) (n : Int) (S : ByteArray) (y : Bool) (nm : ByteArray) (dl : Int) (A : Option Addr) (k c : Nat) (xs : List Stp) : Prop where
  st : Box u w.heap.size 85 #[.string B, .int .i64 (t.p : Nat), .int .i64 (t.e : Nat), .int .i64 (t.o : Nat), .int .i64 n, .string S, .bool y]
  z2 : Box u (w.heap.size + 1) 85 #[.string ⟨#[]⟩, .int .i64 0, .int .i64 0, .int .i64 0, .int .i64 0, .string ⟨#[]⟩, .bool false]
  z3 : Box u (w.heap.size + 2) 24 #[.string ⟨#[]⟩, .int .i64 0, .slice none 0 0]
  df : Box u (w.heap.size + 3) 24 #[.string nm, .int .i64 dl, .slice A k c]
  own : u.ownsRow w.heap.size 67 12 (.slice A k c) k (cellsS xs)
  bel : Below w.heap.size w u
theorem rl_grown {w wr u : World} {B : ByteArray} {t t2 : Ps} {n n2 : Int} {S S2 : ByteArray} {y yb : Bool} {nm : ByteArray} {dl : Int} {A : Option Addr} {k c : Nat} {xs : List Stp} (h : Rl w wr B t n S y nm dl A k c xs) (hg : wr.grownBy u (some w.heap.size))
    (hs : Box u w.heap.size 85 #[.string B, .int .i64 (t2.p : Nat), .int .i64 (t2.e : Nat), .int .i64 (t2.o : Nat), .int .i64 n2, .string S2, .bool yb]) (hb : Below w.heap.size w u) : Rl w u B t2 n2 S2 yb nm dl A k c xs :=
  ⟨hs, h.z2.grown hg (by simp), h.z3.grown hg (by simp), h.df.grown hg (by simp), h.own.kept hg (.inr (own_far h.own h.st (by decide))), hb⟩
theorem app_rl {w u v : World} {B : ByteArray} {t : Ps} {n : Int} {S : ByteArray} {y : Bool} {nm : ByteArray} {dl : Int} {A A2 : Option Addr} {k c c2 : Nat} {xs ys : List Stp} {o : Obj} (h : Rl w u B t n S y nm dl A k c xs) (hg : (u.alloc o).grownBy v (Value.slice A k c).ownBlock)
    (ho : v.ownsRow w.heap.size 67 12 (.slice A2 (k + 1) c2) (k + 1) (cellsS ys)) :
    Box v (w.heap.size + 3) 24 #[.string nm, .int .i64 dl, .slice A k c] ∧ Rl w (v.setCell ⟨w.heap.size + 3, 2, none⟩ (.slice A2 (k + 1) c2)) B t n S y nm dl A2 (k + 1) c2 ys := by
  have h1 := h.own.alloc o
  have hs : Box v (w.heap.size + 3) 24 #[.string nm, .int .i64 dl, .slice A k c] := (h.df.alloc o).grown hg (fun e => own_far h1 (h.df.alloc o) (by decide) e.symm)
  have hb : Below w.heap.size w (u.alloc o) := h.bel.alloc h.bel.size o
  refine ⟨hs, ((h.st.alloc o).grown hg (fun e => own_far h1 (h.st.alloc o) (by decide) e.symm)).far (p := ⟨w.heap.size + 3, 2, none⟩) (show w.heap.size ≠ w.heap.size + 3 by omega) _,
    ((h.z2.alloc o).grown hg (fun e => own_far h1 (h.z2.alloc o) (by decide) e.symm)).far (p := ⟨w.heap.size + 3, 2, none⟩) (show w.heap.size + 1 ≠ w.heap.size + 3 by omega) _,
    ((h.z3.alloc o).grown hg (fun e => own_far h1 (h.z3.alloc o) (by decide) e.symm)).far (p := ⟨w.heap.size + 3, 2, none⟩) (show w.heap.size + 2 ≠ w.heap.size + 3 by omega) _,
    hs.put 2 _, ho.kept (only_put (World.grownBy.refl v _) 2 _) (.inr (own_far ho hs (by decide))),
    (hb.grown hg hb.size (fun q hq => (h1.lt q hq).1)).setCell (p := ⟨w.heap.size + 3, 2, none⟩) (show w.heap.size ≤ w.heap.size + 3 by omega) _⟩
/-- what the document's taker of a definition answers and leaves -/
def RDefTo (w : World) (B : ByteArray) (s : Ps) (e : Ending) (w' : World) : Prop :=
  ∃ n S y A c, e = .returned (.tuple #[.agg #[.string B, .int .i64 (((defS B.data.toList s)).p : Nat), .int .i64 (((defS B.data.toList s)).e : Nat), .int .i64 (((defS B.data.toList s)).o : Nat), .int .i64 n, .string S, .bool y], .agg #[.string (txtQ B.data.toList s), .int .i64 (numQ B.data.toList (txtS B.data.toList s) : Nat), .slice A (defN B.data.toList s) c]]) ∧ Below w.heap.size w w' ∧ w'.ownsRow w.heap.size 67 12 (.slice A (defN B.data.toList s) c) (defN B.data.toList s) (cellsS (defSs B.data.toList s))
set_option maxHeartbeats 16000000 in
set_option maxRecDepth 100000 in
theorem takeDef_s (B : ByteArray) (s : Ps) (n : Int) (S : ByteArray) (y : Bool) (w : World) (hk : Ok B s) : Calls Try.prog 35 #[.agg #[.string B, .int .i64 (s.p : Nat), .int .i64 (s.e : Nat), .int .i64 (s.o : Nat), .int .i64 n, .string S, .bool y]] w (RDefTo w B s) := by
  obtain ⟨hx0, hx1, hx2, hx3⟩ := box4 w 85 85 24 24 #[.string B, .int .i64 (s.p : Nat), .int .i64 (s.e : Nat), .int .i64 (s.o : Nat), .int .i64 n, .string S, .bool y] #[.string ⟨#[]⟩, .int .i64 0, .int .i64 0, .int .i64 0, .int .i64 0, .string ⟨#[]⟩, .bool false] #[.string ⟨#[]⟩, .int .i64 0, .slice none 0 0] #[.string ⟨#[]⟩, .int .i64 0, .slice none 0 0]
  have HS0 := Lib.hid hx0
  have HO0_0 := Lib.hid hx1
  have HO1_0 := Lib.hid hx2
  have HX0 := Lib.hid hx3
  have HB0 : Hid (Below w.heap.size w ((((w.alloc (.cells #[.string B, .int .i64 (s.p : Nat), .int .i64 (s.e : Nat), .int .i64 (s.o : Nat), .int .i64 n, .string S, .bool y] 85)).alloc (.cells #[.string ⟨#[]⟩, .int .i64 0, .int .i64 0, .int .i64 0, .int .i64 0, .string ⟨#[]⟩, .bool false] 85)).alloc (.cells #[.string ⟨#[]⟩, .int .i64 0, .slice none 0 0] 24)).alloc (.cells #[.string ⟨#[]⟩, .int .i64 0, .slice none 0 0] 24))) := Lib.hid (((((Below.refl w.heap.size w).alloc (Nat.le_refl _) _).alloc (by simp) _).alloc (by simp; omega) _).alloc (by simp; omega) _)
  clear hx0 hx1 hx2 hx3
  obtain ⟨s1, hs1⟩ : ∃ t, t = txtS B.data.toList (s) := ⟨_, rfl⟩
  obtain ⟨q1, hq1⟩ : ∃ q, q = txtQ B.data.toList (s) := ⟨_, rfl⟩
  have HT1 : Hid (∀ W, Calls Try.prog 47 #[.agg #[.string B, .int .i64 ((s).p : Nat), .int .i64 ((s).e : Nat), .int .i64 ((s).o : Nat), .int .i64 n, .string S, .bool y], .int .i64 256] W fun e w2 => e = .returned (.agg #[.string B, .int .i64 ((s1).p : Nat), .int .i64 ((s1).e : Nat), .int .i64 ((s1).o : Nat), .int .i64 n, .string q1, .bool y]) ∧ Below W.heap.size W w2) := Lib.hid fun W => by rw [hs1, hq1]; exact textS_s B (s) _ _ _ W (hk)
  have ok1 : Ok B s1 := by rw [hs1]; exact Ok.txt (hk)
  obtain ⟨s2, hs2⟩ : ∃ t, t = numS B.data.toList (s1) := ⟨_, rfl⟩
  obtain ⟨q2, hq2⟩ : ∃ q, q = numQ B.data.toList (s1) := ⟨_, rfl⟩
  have HT2 : Hid (∀ W, Calls Try.prog 46 #[.agg #[.string B, .int .i64 ((s1).p : Nat), .int .i64 ((s1).e : Nat), .int .i64 ((s1).o : Nat), .int .i64 n, .string q1, .bool y]] W fun e w2 => e = .returned (.agg #[.string B, .int .i64 ((s2).p : Nat), .int .i64 ((s2).e : Nat), .int .i64 ((s2).o : Nat), .int .i64 (q2 : Nat), .string q1, .bool y]) ∧ Below W.heap.size W w2) := Lib.hid fun W => by rw [hs2, hq2]; exact takeN_s B (s1) _ _ _ W (ok1)
  have ok2 : Ok B s2 := by rw [hs2]; exact Ok.num (ok1)
  obtain ⟨s3, hs3⟩ : ∃ t, t = cntS B.data.toList s2 := ⟨_, rfl⟩
  obtain ⟨N, hN⟩ : ∃ q, q = cntQ B.data.toList s2 := ⟨_, rfl⟩
  have HCn : Hid (∀ W, Calls Try.prog 65 #[.agg #[.string B, .int .i64 ((s2).p : Nat), .int .i64 ((s2).e : Nat), .int .i64 ((s2).o : Nat), .int .i64 (q2 : Nat), .string q1, .bool y], .int .i64 32, .int .i64 96] W fun e w2 => e = .returned (.tuple #[.agg #[.string B, .int .i64 ((s3).p : Nat), .int .i64 ((s3).e : Nat), .int .i64 ((s3).o : Nat), .int .i64 (q2 : Nat), .string q1, .bool y], .int .i64 (N : Nat)]) ∧ Below W.heap.size W w2) := Lib.hid fun W => by rw [hs3, hN]; exact count_s B s2 _ _ _ W ok2
  have ok3 : Ok B s3 := by rw [hs3]; exact Ok.cnt ok2
  have hN32 : N ≤ 32 := by rw [hN]; exact cntQ_le _
  have HG : Hid (defS B.data.toList s = stepsS B.data.toList N s3 ∧ defSs B.data.toList s = stepsQ B.data.toList N s3 ∧ defN B.data.toList s = N ∧ txtQ B.data.toList s = q1 ∧ numQ B.data.toList (txtS B.data.toList s) = q2) := Lib.hid (by subst_vars; exact ⟨rfl, rfl, rfl, rfl, rfl⟩)
  have Hok3 := Lib.hid ok3
  clear ok3 hs3 hN
  have Hok2 := Lib.hid ok2
  clear ok2 hs2 hq2
  have Hok1 := Lib.hid ok1
  clear ok1 hs1 hq1
  have HF : Hid (∀ n S y A c w', Below w.heap.size w w' → w'.ownsRow w.heap.size 67 12 (.slice A N c) N (cellsS (stepsQ B.data.toList N s3)) → RDefTo w B s (.returned (.tuple #[.agg #[.string B, .int .i64 (((stepsS B.data.toList N s3)).p : Nat), .int .i64 (((stepsS B.data.toList N s3)).e : Nat), .int .i64 (((stepsS B.data.toList N s3)).o : Nat), .int .i64 n, .string S, .bool y], .agg #[.string q1, .int .i64 (q2 : Nat), .slice A N c]])) w') := Lib.hid fun n S y A c w' h1 h2 => by
    unfold RDefTo
    rw [HG.out.1, HG.out.2.1, HG.out.2.2.1, HG.out.2.2.2.1, HG.out.2.2.2.2]
    exact ⟨n, S, y, A, c, rfl, h1, h2⟩
  clear HG hk Hok1 Hok2
  obtain ⟨i0, hi0, hz0, hz1, hz2⟩ := info_is
  go_enter Try.func35, Try.ntmps35
  go_upto_region 2 with fail
  generalize (((w.alloc (.cells #[.string B, .int .i64 (s.p : Nat), .int .i64 (s.e : Nat), .int .i64 (s.o : Nat), .int .i64 n, .string S, .bool y] 85)).alloc (.cells #[.string ⟨#[]⟩, .int .i64 0, .int .i64 0, .int .i64 0, .int .i64 0, .string ⟨#[]⟩, .bool false] 85)).alloc (.cells #[.string ⟨#[]⟩, .int .i64 0, .slice none 0 0] 24)).alloc (.cells #[.string ⟨#[]⟩, .int .i64 0, .slice none 0 0] 24) = W0 at *
  obtain ⟨e0, e1, e2, e3, e4, e5, e6⟩ := stcell (s := s) HS0.out
  go_wp2_with fail
  refine (HT1.out _).mono ?_
  rintro e w1 ⟨rfl, hb⟩
  have HR1 := Lib.hid (HS0.out.below hb HS0.out.lt)
  have HU1 := Lib.hid (HX0.out.below hb HX0.out.lt)
  have HD1 := Lib.hid (HB0.out.trans (hb.mono HB0.out.size))
  have HV0_1 := Lib.hid (HO0_0.out.below hb HO0_0.out.lt)
  have HV1_1 := Lib.hid (HO1_0.out.below hb HO1_0.out.lt)
  clear hb HS0 HX0 HB0 HO0_0 HO1_0 HT1
  clear e0 e1 e2 e3 e4 e5 e6
  go_wp2_with (refine wpList_store_row rfl 85 (.tmp 1) (.tmp 14) rfl (w.heap.size) 85 _ #[.string B, .int .i64 ((s1).p : Nat), .int .i64 ((s1).e : Nat), .int .i64 ((s1).o : Nat), .int .i64 n, .string q1, .bool y] rfl rfl HR1.out (size_st _ _ _ _ _ _ _) rfl (by simp [Value.oneCell']) ?_; have HI1 := Lib.hid (box_set HR1.out #[.string B, .int .i64 ((s1).p : Nat), .int .i64 ((s1).e : Nat), .int .i64 ((s1).o : Nat), .int .i64 n, .string q1, .bool y]); have HY1 := Lib.hid (box_off HU1.out (show w.heap.size + 3 ≠ w.heap.size by omega) #[.string B, .int .i64 ((s1).p : Nat), .int .i64 ((s1).e : Nat), .int .i64 ((s1).o : Nat), .int .i64 n, .string q1, .bool y]); have HC1 := Lib.hid (below_putRow HD1.out (show w.heap.size ≤ w.heap.size by omega) #[.string B, .int .i64 ((s1).p : Nat), .int .i64 ((s1).e : Nat), .int .i64 ((s1).o : Nat), .int .i64 n, .string q1, .bool y]); have HP0_1 := Lib.hid (box_off HV0_1.out (show w.heap.size + 1 ≠ w.heap.size by omega) #[.string B, .int .i64 ((s1).p : Nat), .int .i64 ((s1).e : Nat), .int .i64 ((s1).o : Nat), .int .i64 n, .string q1, .bool y]); have HP1_1 := Lib.hid (box_off HV1_1.out (show w.heap.size + 2 ≠ w.heap.size by omega) #[.string B, .int .i64 ((s1).p : Nat), .int .i64 ((s1).e : Nat), .int .i64 ((s1).o : Nat), .int .i64 n, .string q1, .bool y]); clear HR1 HU1 HD1 HV0_1 HV1_1; generalize w1.setRow (w.heap.size) #[.string B, .int .i64 ((s1).p : Nat), .int .i64 ((s1).e : Nat), .int .i64 ((s1).o : Nat), .int .i64 n, .string q1, .bool y] = u1 at *; obtain ⟨d0, d1, d2, d3, d4, d5, d6⟩ := stcell (s := s1) HI1.out; have xo := HY1.out.cell 0; simp only [List.getElem?_toArray, List.getElem?_cons_zero] at xo; have xf := HY1.out.frozen 0; have HS1 := Lib.hid (HI1.out.far (p := ⟨w.heap.size + 3, 0, none⟩) (show w.heap.size ≠ w.heap.size + 3 by omega) (.string (q1))); have HX1 : Hid (Box (u1.setCell ⟨w.heap.size + 3, 0, none⟩ (.string (q1))) (w.heap.size + 3) 24 #[.string (q1), .int .i64 0, .slice none 0 0]) := Lib.hid (HY1.out.put 0 (.string (q1))); have HB1 := Lib.hid (HC1.out.setCell (p := ⟨w.heap.size + 3, 0, none⟩) (show w.heap.size ≤ w.heap.size + 3 by omega) (.string (q1))); have HO0_1 := Lib.hid (HP0_1.out.far (p := ⟨w.heap.size + 3, 0, none⟩) (show w.heap.size + 1 ≠ w.heap.size + 3 by omega) (.string (q1))); have HO1_1 := Lib.hid (HP1_1.out.far (p := ⟨w.heap.size + 3, 0, none⟩) (show w.heap.size + 2 ≠ w.heap.size + 3 by omega) (.string (q1))); obtain ⟨e0, e1, e2, e3, e4, e5, e6⟩ := stcell (s := s1) HS1.out)
  clear d0 d1 d2 d3 d4 d5 d6 xo xf e0 e1 e2 e3 e4 e5 e6 HI1 HY1 HC1 HP0_1 HP1_1
  generalize u1.setCell ⟨w.heap.size + 3, 0, none⟩ (.string (q1)) = V1 at *
  refine (HT2.out _).mono ?_
  rintro e w2 ⟨rfl, hb⟩
  have HR2 := Lib.hid (HS1.out.below hb HS1.out.lt)
  have HU2 := Lib.hid (HX1.out.below hb HX1.out.lt)
  have HD2 := Lib.hid (HB1.out.trans (hb.mono HB1.out.size))
  have HV0_2 := Lib.hid (HO0_1.out.below hb HO0_1.out.lt)
  have HV1_2 := Lib.hid (HO1_1.out.below hb HO1_1.out.lt)
  clear hb HS1 HX1 HB1 HO0_1 HO1_1 HT2
  go_wp2_with (refine wpList_store_row rfl 85 (.tmp 1) (.tmp 19) rfl (w.heap.size) 85 _ #[.string B, .int .i64 ((s2).p : Nat), .int .i64 ((s2).e : Nat), .int .i64 ((s2).o : Nat), .int .i64 (q2 : Nat), .string q1, .bool y] rfl rfl HR2.out (size_st _ _ _ _ _ _ _) rfl (by simp [Value.oneCell']) ?_; have HI2 := Lib.hid (box_set HR2.out #[.string B, .int .i64 ((s2).p : Nat), .int .i64 ((s2).e : Nat), .int .i64 ((s2).o : Nat), .int .i64 (q2 : Nat), .string q1, .bool y]); have HY2 := Lib.hid (box_off HU2.out (show w.heap.size + 3 ≠ w.heap.size by omega) #[.string B, .int .i64 ((s2).p : Nat), .int .i64 ((s2).e : Nat), .int .i64 ((s2).o : Nat), .int .i64 (q2 : Nat), .string q1, .bool y]); have HC2 := Lib.hid (below_putRow HD2.out (show w.heap.size ≤ w.heap.size by omega) #[.string B, .int .i64 ((s2).p : Nat), .int .i64 ((s2).e : Nat), .int .i64 ((s2).o : Nat), .int .i64 (q2 : Nat), .string q1, .bool y]); have HP0_2 := Lib.hid (box_off HV0_2.out (show w.heap.size + 1 ≠ w.heap.size by omega) #[.string B, .int .i64 ((s2).p : Nat), .int .i64 ((s2).e : Nat), .int .i64 ((s2).o : Nat), .int .i64 (q2 : Nat), .string q1, .bool y]); have HP1_2 := Lib.hid (box_off HV1_2.out (show w.heap.size + 2 ≠ w.heap.size by omega) #[.string B, .int .i64 ((s2).p : Nat), .int .i64 ((s2).e : Nat), .int .i64 ((s2).o : Nat), .int .i64 (q2 : Nat), .string q1, .bool y]); clear HR2 HU2 HD2 HV0_2 HV1_2; generalize w2.setRow (w.heap.size) #[.string B, .int .i64 ((s2).p : Nat), .int .i64 ((s2).e : Nat), .int .i64 ((s2).o : Nat), .int .i64 (q2 : Nat), .string q1, .bool y] = u2 at *; obtain ⟨d0, d1, d2, d3, d4, d5, d6⟩ := stcell (s := s2) HI2.out; have xo := HY2.out.cell 1; simp only [List.getElem?_toArray, List.getElem?_cons_zero, List.getElem?_cons_succ] at xo; have xf := HY2.out.frozen 1; have HS2 := Lib.hid (HI2.out.far (p := ⟨w.heap.size + 3, 1, none⟩) (show w.heap.size ≠ w.heap.size + 3 by omega) (.int .i64 (q2 : Nat))); have HX2 : Hid (Box (u2.setCell ⟨w.heap.size + 3, 1, none⟩ (.int .i64 (q2 : Nat))) (w.heap.size + 3) 24 #[.string (q1), .int .i64 (q2 : Nat), .slice none 0 0]) := Lib.hid (HY2.out.put 1 (.int .i64 (q2 : Nat))); have HB2 := Lib.hid (HC2.out.setCell (p := ⟨w.heap.size + 3, 1, none⟩) (show w.heap.size ≤ w.heap.size + 3 by omega) (.int .i64 (q2 : Nat))); have HO0_2 := Lib.hid (HP0_2.out.far (p := ⟨w.heap.size + 3, 1, none⟩) (show w.heap.size + 1 ≠ w.heap.size + 3 by omega) (.int .i64 (q2 : Nat))); have HO1_2 := Lib.hid (HP1_2.out.far (p := ⟨w.heap.size + 3, 1, none⟩) (show w.heap.size + 2 ≠ w.heap.size + 3 by omega) (.int .i64 (q2 : Nat))); obtain ⟨e0, e1, e2, e3, e4, e5, e6⟩ := stcell (s := s2) HS2.out)
  clear d0 d1 d2 d3 d4 d5 d6 xo xf e0 e1 e2 e3 e4 e5 e6 HI2 HY2 HC2 HP0_2 HP1_2
  generalize u2.setCell ⟨w.heap.size + 3, 1, none⟩ (.int .i64 (q2 : Nat)) = V2 at *
  refine (HCn.out _).mono ?_
  rintro e wc ⟨rfl, hb⟩
  have HRc := Lib.hid (HS2.out.below hb HS2.out.lt)
  have HUc := Lib.hid (HX2.out.below hb HX2.out.lt)
  have HDc := Lib.hid (HB2.out.trans (hb.mono HB2.out.size))
  have HV0 := Lib.hid (HO0_2.out.below hb HO0_2.out.lt)
  have HV1 := Lib.hid (HO1_2.out.below hb HO1_2.out.lt)
  clear hb HS2 HX2 HB2 HO0_2 HO1_2 HCn
  have HL0 : Hid (Rl w (wc.setRow (w.heap.size) #[.string B, .int .i64 ((s3).p : Nat), .int .i64 ((s3).e : Nat), .int .i64 ((s3).o : Nat), .int .i64 (q2 : Nat), .string q1, .bool y]) B (stepsS B.data.toList 0 s3) (q2 : Nat) q1 y q1 (q2 : Nat) none 0 0 (stepsQ B.data.toList 0 s3)) := Lib.hid ⟨box_set HRc.out _, box_off HV0.out (show w.heap.size + 1 ≠ w.heap.size by omega) _, box_off HV1.out (show w.heap.size + 2 ≠ w.heap.size by omega) _, box_off HUc.out (show w.heap.size + 3 ≠ w.heap.size by omega) _, World.ownsRow_nil _ _ _ _, below_putRow HDc.out (Nat.le_refl _) _⟩
  go_wp2_with (refine wpList_store_row rfl 85 (.tmp 1) (.tmp 26) rfl (w.heap.size) 85 _ #[.string B, .int .i64 ((s3).p : Nat), .int .i64 ((s3).e : Nat), .int .i64 ((s3).o : Nat), .int .i64 (q2 : Nat), .string q1, .bool y] rfl rfl HRc.out (size_st _ _ _ _ _ _ _) rfl (by simp [Value.oneCell']) ?_)
  generalize wc.setRow (w.heap.size) #[.string B, .int .i64 ((s3).p : Nat), .int .i64 ((s3).e : Nat), .int .i64 ((s3).o : Nat), .int .i64 (q2 : Nat), .string q1, .bool y] = W1 at *
  clear HRc HUc HDc HV0 HV1
  go_loopw [6] (fun vi wr => ∃ k : Nat, vi = .int .i64 (k : Int) ∧ k ≤ N ∧ ∃ (n : Int) (S : ByteArray) (y : Bool) (A : Option Addr) (c' : Nat), Hid (Rl w wr B (stepsS B.data.toList k s3) n S y q1 (q2 : Nat) A k c' (stepsQ B.data.toList k s3))) (fun vi _ => N - (intOf vi).toNat)
  case atStart => exact ⟨0, rfl, Nat.zero_le _, _, _, _, none, 0, HL0⟩
  case round =>
    obtain ⟨k, rfl, hk0, n2, S2, yb, A, c', HL⟩ := hrel
    clear HL0
    by_cases hkn : k < N
    · obtain ⟨tk, ht⟩ : ∃ z, z = stepsS B.data.toList k s3 := ⟨_, rfl⟩
      have hk : Ok B tk := by rw [ht]; exact Ok.steps k Hok3.out
      obtain ⟨xs, hxs⟩ : ∃ xs, xs = stepsQ B.data.toList k s3 := ⟨_, rfl⟩
      rw [← ht, ← hxs] at HL
      have HSn : Hid (stepsS B.data.toList (k + 1) s3 = stepS B.data.toList tk ∧ stepsQ B.data.toList (k + 1) s3 = xs ++ [stepQ B.data.toList tk]) := Lib.hid (by rw [stepsS_snoc, stepsQ_snoc, ht, hxs]; exact ⟨rfl, rfl⟩)
      clear ht hxs
      obtain ⟨rs1, hrs1⟩ : ∃ t, t = txtS B.data.toList (tk) := ⟨_, rfl⟩
      obtain ⟨rq1, hrq1⟩ : ∃ q, q = txtQ B.data.toList (tk) := ⟨_, rfl⟩
      have rHT1 : Hid (∀ W, Calls Try.prog 47 #[.agg #[.string B, .int .i64 ((tk).p : Nat), .int .i64 ((tk).e : Nat), .int .i64 ((tk).o : Nat), .int .i64 n2, .string S2, .bool yb], .int .i64 256] W fun e w2 => e = .returned (.agg #[.string B, .int .i64 ((rs1).p : Nat), .int .i64 ((rs1).e : Nat), .int .i64 ((rs1).o : Nat), .int .i64 n2, .string rq1, .bool yb]) ∧ Below W.heap.size W w2) := Lib.hid fun W => by rw [hrs1, hrq1]; exact textS_s B (tk) _ _ _ W (hk)
      have rok1 : Ok B rs1 := by rw [hrs1]; exact Ok.txt (hk)
      obtain ⟨rs2, hrs2⟩ : ∃ t, t = txtS B.data.toList (rs1) := ⟨_, rfl⟩
      obtain ⟨rq2, hrq2⟩ : ∃ q, q = txtQ B.data.toList (rs1) := ⟨_, rfl⟩
      have rHT2 : Hid (∀ W, Calls Try.prog 47 #[.agg #[.string B, .int .i64 ((rs1).p : Nat), .int .i64 ((rs1).e : Nat), .int .i64 ((rs1).o : Nat), .int .i64 n2, .string rq1, .bool yb], .int .i64 256] W fun e w2 => e = .returned (.agg #[.string B, .int .i64 ((rs2).p : Nat), .int .i64 ((rs2).e : Nat), .int .i64 ((rs2).o : Nat), .int .i64 n2, .string rq2, .bool yb]) ∧ Below W.heap.size W w2) := Lib.hid fun W => by rw [hrs2, hrq2]; exact textS_s B (rs1) _ _ _ W (rok1)
      have rok2 : Ok B rs2 := by rw [hrs2]; exact Ok.txt (rok1)
      obtain ⟨rs3, hrs3⟩ : ∃ t, t = numS B.data.toList (rs2) := ⟨_, rfl⟩
      obtain ⟨rq3, hrq3⟩ : ∃ q, q = numQ B.data.toList (rs2) := ⟨_, rfl⟩
      have rHT3 : Hid (∀ W, Calls Try.prog 46 #[.agg #[.string B, .int .i64 ((rs2).p : Nat), .int .i64 ((rs2).e : Nat), .int .i64 ((rs2).o : Nat), .int .i64 n2, .string rq2, .bool yb]] W fun e w2 => e = .returned (.agg #[.string B, .int .i64 ((rs3).p : Nat), .int .i64 ((rs3).e : Nat), .int .i64 ((rs3).o : Nat), .int .i64 (rq3 : Nat), .string rq2, .bool yb]) ∧ Below W.heap.size W w2) := Lib.hid fun W => by rw [hrs3, hrq3]; exact takeN_s B (rs2) _ _ _ W (rok2)
      have rok3 : Ok B rs3 := by rw [hrs3]; exact Ok.num (rok2)
      obtain ⟨t4, ht4⟩ : ∃ z, z = planS B.data.toList rs3 := ⟨_, rfl⟩
      obtain ⟨pa, hpa⟩ : ∃ z, z = planQ B.data.toList rs3 := ⟨_, rfl⟩
      have HPa : Hid (∀ W, Calls Try.prog 66 #[.agg #[.string B, .int .i64 ((rs3).p : Nat), .int .i64 ((rs3).e : Nat), .int .i64 ((rs3).o : Nat), .int .i64 (rq3 : Nat), .string rq2, .bool yb]] W fun e w2 => (∃ n', e = .returned (.tuple #[.agg #[.string B, .int .i64 ((t4).p : Nat), .int .i64 ((t4).e : Nat), .int .i64 ((t4).o : Nat), .int .i64 n', .string rq2, .bool yb], .agg #[.int .i64 pa.r, .int .i64 pa.b, .int .i64 pa.f, .int .i64 pa.c]])) ∧ Below W.heap.size W w2) := Lib.hid fun W => by rw [ht4, hpa]; exact takePlan_s B rs3 _ _ _ W rok3
      have ok4 : Ok B t4 := by rw [ht4]; exact Ok.plan rok3
      obtain ⟨t5, ht5⟩ : ∃ z, z = planS B.data.toList t4 := ⟨_, rfl⟩
      obtain ⟨pb, hpb⟩ : ∃ z, z = planQ B.data.toList t4 := ⟨_, rfl⟩
      have HPb : Hid (∀ n1 W, Calls Try.prog 66 #[.agg #[.string B, .int .i64 ((t4).p : Nat), .int .i64 ((t4).e : Nat), .int .i64 ((t4).o : Nat), .int .i64 n1, .string rq2, .bool yb]] W fun e w2 => (∃ n', e = .returned (.tuple #[.agg #[.string B, .int .i64 ((t5).p : Nat), .int .i64 ((t5).e : Nat), .int .i64 ((t5).o : Nat), .int .i64 n', .string rq2, .bool yb], .agg #[.int .i64 pb.r, .int .i64 pb.b, .int .i64 pb.f, .int .i64 pb.c]])) ∧ Below W.heap.size W w2) := Lib.hid fun n1 W => by rw [ht5, hpb]; exact takePlan_s B t4 _ _ _ W ok4
      have ok5 : Ok B t5 := by rw [ht5]; exact Ok.plan ok4
      obtain ⟨t6, ht6⟩ : ∃ z, z = numS B.data.toList t5 := ⟨_, rfl⟩
      obtain ⟨q6, hq6⟩ : ∃ z, z = numQ B.data.toList t5 := ⟨_, rfl⟩
      have HT6 : Hid (∀ n1 W, Calls Try.prog 46 #[.agg #[.string B, .int .i64 ((t5).p : Nat), .int .i64 ((t5).e : Nat), .int .i64 ((t5).o : Nat), .int .i64 n1, .string rq2, .bool yb]] W fun e w2 => e = .returned (.agg #[.string B, .int .i64 ((t6).p : Nat), .int .i64 ((t6).e : Nat), .int .i64 ((t6).o : Nat), .int .i64 (q6 : Nat), .string rq2, .bool yb]) ∧ Below W.heap.size W w2) := Lib.hid fun n1 W => by rw [ht6, hq6]; exact takeN_s B t5 _ _ _ W ok5
      have HQs : Hid (stepS B.data.toList tk = t6 ∧ stepQ B.data.toList tk = ⟨rq1, rq2, rq3, pa, pb, q6⟩) := Lib.hid (by subst_vars; exact ⟨rfl, rfl⟩)
      clear ok4 ok5 ht4 hpa ht5 hpb ht6 hq6
      have Hrok3 := Lib.hid rok3
      clear rok3 hrs3 hrq3
      have Hrok2 := Lib.hid rok2
      clear rok2 hrs2 hrq2
      have Hrok1 := Lib.hid rok1
      clear rok1 hrs1 hrq1
      clear Hrok1 Hrok2 Hrok3 hk
      have hzr : w.heap.size + 4 ≤ wr.heap.size := by have := HL.out.df.lt; omega
      have HS0 := Lib.hid (HL.out.st.alloc (.cells #[.string ⟨#[]⟩, .string ⟨#[]⟩, .int .i64 0, .int .i64 0, .int .i64 0, .int .i64 0, .int .i64 0, .int .i64 0, .int .i64 0, .int .i64 0, .int .i64 0, .int .i64 0] 67))
      have HX0 := Lib.hid (Box.new wr 67 #[.string ⟨#[]⟩, .string ⟨#[]⟩, .int .i64 0, .int .i64 0, .int .i64 0, .int .i64 0, .int .i64 0, .int .i64 0, .int .i64 0, .int .i64 0, .int .i64 0, .int .i64 0])
      have HB0 := Lib.hid (HL.out.bel.alloc (show w.heap.size ≤ wr.heap.size by omega) (.cells #[.string ⟨#[]⟩, .string ⟨#[]⟩, .int .i64 0, .int .i64 0, .int .i64 0, .int .i64 0, .int .i64 0, .int .i64 0, .int .i64 0, .int .i64 0, .int .i64 0, .int .i64 0] 67))
      have HG0 : Hid (wr.grownBy (wr.alloc (.cells #[.string ⟨#[]⟩, .string ⟨#[]⟩, .int .i64 0, .int .i64 0, .int .i64 0, .int .i64 0, .int .i64 0, .int .i64 0, .int .i64 0, .int .i64 0, .int .i64 0, .int .i64 0] 67)) (some w.heap.size)) := Lib.hid (grown_al (World.grownBy.refl _ _) _)
      go_upto_region 12 with fail
      generalize wr.alloc (.cells #[.string ⟨#[]⟩, .string ⟨#[]⟩, .int .i64 0, .int .i64 0, .int .i64 0, .int .i64 0, .int .i64 0, .int .i64 0, .int .i64 0, .int .i64 0, .int .i64 0, .int .i64 0] 67) = V0 at *
      obtain ⟨e0, e1, e2, e3, e4, e5, e6⟩ := stcell (s := tk) HS0.out
      go_wp2_with fail
      refine (rHT1.out _).mono ?_
      rintro e rw1 ⟨rfl, hb⟩
      have rHR1 := Lib.hid (HS0.out.below hb HS0.out.lt)
      have rHU1 := Lib.hid (HX0.out.below hb HX0.out.lt)
      have rHD1 := Lib.hid (HB0.out.trans (hb.mono HB0.out.size))
      have rHG1 := Lib.hid (grown_call HG0.out hb)
      clear hb HS0 HX0 HB0 HG0 rHT1
      clear e0 e1 e2 e3 e4 e5 e6
      go_wp2_with (refine wpList_store_row rfl 85 (.tmp 1) (.tmp 35) rfl (w.heap.size) 85 _ #[.string B, .int .i64 ((rs1).p : Nat), .int .i64 ((rs1).e : Nat), .int .i64 ((rs1).o : Nat), .int .i64 n2, .string rq1, .bool yb] rfl rfl rHR1.out (size_st _ _ _ _ _ _ _) rfl (by simp [Value.oneCell']) ?_; have rHI1 := Lib.hid (box_set rHR1.out #[.string B, .int .i64 ((rs1).p : Nat), .int .i64 ((rs1).e : Nat), .int .i64 ((rs1).o : Nat), .int .i64 n2, .string rq1, .bool yb]); have rHY1 := Lib.hid (box_off rHU1.out (show wr.heap.size ≠ w.heap.size by omega) #[.string B, .int .i64 ((rs1).p : Nat), .int .i64 ((rs1).e : Nat), .int .i64 ((rs1).o : Nat), .int .i64 n2, .string rq1, .bool yb]); have rHC1 := Lib.hid (below_putRow rHD1.out (show w.heap.size ≤ w.heap.size by omega) #[.string B, .int .i64 ((rs1).p : Nat), .int .i64 ((rs1).e : Nat), .int .i64 ((rs1).o : Nat), .int .i64 n2, .string rq1, .bool yb]); have rHH1 := Lib.hid (grown_row rHG1.out #[.string B, .int .i64 ((rs1).p : Nat), .int .i64 ((rs1).e : Nat), .int .i64 ((rs1).o : Nat), .int .i64 n2, .string rq1, .bool yb]); clear rHG1; clear rHR1 rHU1 rHD1 ; generalize rw1.setRow (w.heap.size) #[.string B, .int .i64 ((rs1).p : Nat), .int .i64 ((rs1).e : Nat), .int .i64 ((rs1).o : Nat), .int .i64 n2, .string rq1, .bool yb] = ru1 at *; obtain ⟨d0, d1, d2, d3, d4, d5, d6⟩ := stcell (s := rs1) rHI1.out; have xo := rHY1.out.cell 0; simp only [List.getElem?_toArray, List.getElem?_cons_zero] at xo; have xf := rHY1.out.frozen 0; have rHS1 := Lib.hid (rHI1.out.far (p := ⟨wr.heap.size, 0, none⟩) (show w.heap.size ≠ wr.heap.size by omega) (.string (rq1))); have rHX1 : Hid (Box (ru1.setCell ⟨wr.heap.size, 0, none⟩ (.string (rq1))) (wr.heap.size) 67 #[.string (rq1), .string ⟨#[]⟩, .int .i64 0, .int .i64 0, .int .i64 0, .int .i64 0, .int .i64 0, .int .i64 0, .int .i64 0, .int .i64 0, .int .i64 0, .int .i64 0]) := Lib.hid (rHY1.out.put 0 (.string (rq1))); have rHB1 := Lib.hid (rHC1.out.setCell (p := ⟨wr.heap.size, 0, none⟩) (show w.heap.size ≤ wr.heap.size by omega) (.string (rq1))); have rHG1 := Lib.hid (grown_put rHH1.out (show wr.heap.size ≤ wr.heap.size by omega) 0 (.string (rq1))); obtain ⟨e0, e1, e2, e3, e4, e5, e6⟩ := stcell (s := rs1) rHS1.out)
      clear d0 d1 d2 d3 d4 d5 d6 xo xf e0 e1 e2 e3 e4 e5 e6 rHI1 rHY1 rHC1  rHH1
      generalize ru1.setCell ⟨wr.heap.size, 0, none⟩ (.string (rq1)) = rV1 at *
      refine (rHT2.out _).mono ?_
      rintro e rw2 ⟨rfl, hb⟩
      have rHR2 := Lib.hid (rHS1.out.below hb rHS1.out.lt)
      have rHU2 := Lib.hid (rHX1.out.below hb rHX1.out.lt)
      have rHD2 := Lib.hid (rHB1.out.trans (hb.mono rHB1.out.size))
      have rHG2 := Lib.hid (grown_call rHG1.out hb)
      clear hb rHS1 rHX1 rHB1 rHG1 rHT2
      go_wp2_with (refine wpList_store_row rfl 85 (.tmp 1) (.tmp 40) rfl (w.heap.size) 85 _ #[.string B, .int .i64 ((rs2).p : Nat), .int .i64 ((rs2).e : Nat), .int .i64 ((rs2).o : Nat), .int .i64 n2, .string rq2, .bool yb] rfl rfl rHR2.out (size_st _ _ _ _ _ _ _) rfl (by simp [Value.oneCell']) ?_; have rHI2 := Lib.hid (box_set rHR2.out #[.string B, .int .i64 ((rs2).p : Nat), .int .i64 ((rs2).e : Nat), .int .i64 ((rs2).o : Nat), .int .i64 n2, .string rq2, .bool yb]); have rHY2 := Lib.hid (box_off rHU2.out (show wr.heap.size ≠ w.heap.size by omega) #[.string B, .int .i64 ((rs2).p : Nat), .int .i64 ((rs2).e : Nat), .int .i64 ((rs2).o : Nat), .int .i64 n2, .string rq2, .bool yb]); have rHC2 := Lib.hid (below_putRow rHD2.out (show w.heap.size ≤ w.heap.size by omega) #[.string B, .int .i64 ((rs2).p : Nat), .int .i64 ((rs2).e : Nat), .int .i64 ((rs2).o : Nat), .int .i64 n2, .string rq2, .bool yb]); have rHH2 := Lib.hid (grown_row rHG2.out #[.string B, .int .i64 ((rs2).p : Nat), .int .i64 ((rs2).e : Nat), .int .i64 ((rs2).o : Nat), .int .i64 n2, .string rq2, .bool yb]); clear rHG2; clear rHR2 rHU2 rHD2 ; generalize rw2.setRow (w.heap.size) #[.string B, .int .i64 ((rs2).p : Nat), .int .i64 ((rs2).e : Nat), .int .i64 ((rs2).o : Nat), .int .i64 n2, .string rq2, .bool yb] = ru2 at *; obtain ⟨d0, d1, d2, d3, d4, d5, d6⟩ := stcell (s := rs2) rHI2.out; have xo := rHY2.out.cell 1; simp only [List.getElem?_toArray, List.getElem?_cons_zero, List.getElem?_cons_succ] at xo; have xf := rHY2.out.frozen 1; have rHS2 := Lib.hid (rHI2.out.far (p := ⟨wr.heap.size, 1, none⟩) (show w.heap.size ≠ wr.heap.size by omega) (.string (rq2))); have rHX2 : Hid (Box (ru2.setCell ⟨wr.heap.size, 1, none⟩ (.string (rq2))) (wr.heap.size) 67 #[.string (rq1), .string (rq2), .int .i64 0, .int .i64 0, .int .i64 0, .int .i64 0, .int .i64 0, .int .i64 0, .int .i64 0, .int .i64 0, .int .i64 0, .int .i64 0]) := Lib.hid (rHY2.out.put 1 (.string (rq2))); have rHB2 := Lib.hid (rHC2.out.setCell (p := ⟨wr.heap.size, 1, none⟩) (show w.heap.size ≤ wr.heap.size by omega) (.string (rq2))); have rHG2 := Lib.hid (grown_put rHH2.out (show wr.heap.size ≤ wr.heap.size by omega) 1 (.string (rq2))); obtain ⟨e0, e1, e2, e3, e4, e5, e6⟩ := stcell (s := rs2) rHS2.out)
      clear d0 d1 d2 d3 d4 d5 d6 xo xf e0 e1 e2 e3 e4 e5 e6 rHI2 rHY2 rHC2  rHH2
      generalize ru2.setCell ⟨wr.heap.size, 1, none⟩ (.string (rq2)) = rV2 at *
      refine (rHT3.out _).mono ?_
      rintro e rw3 ⟨rfl, hb⟩
      have rHR3 := Lib.hid (rHS2.out.below hb rHS2.out.lt)
      have rHU3 := Lib.hid (rHX2.out.below hb rHX2.out.lt)
      have rHD3 := Lib.hid (rHB2.out.trans (hb.mono rHB2.out.size))
      have rHG3 := Lib.hid (grown_call rHG2.out hb)
      clear hb rHS2 rHX2 rHB2 rHG2 rHT3
      go_wp2_with (refine wpList_store_row rfl 85 (.tmp 1) (.tmp 45) rfl (w.heap.size) 85 _ #[.string B, .int .i64 ((rs3).p : Nat), .int .i64 ((rs3).e : Nat), .int .i64 ((rs3).o : Nat), .int .i64 (rq3 : Nat), .string rq2, .bool yb] rfl rfl rHR3.out (size_st _ _ _ _ _ _ _) rfl (by simp [Value.oneCell']) ?_; have rHI3 := Lib.hid (box_set rHR3.out #[.string B, .int .i64 ((rs3).p : Nat), .int .i64 ((rs3).e : Nat), .int .i64 ((rs3).o : Nat), .int .i64 (rq3 : Nat), .string rq2, .bool yb]); have rHY3 := Lib.hid (box_off rHU3.out (show wr.heap.size ≠ w.heap.size by omega) #[.string B, .int .i64 ((rs3).p : Nat), .int .i64 ((rs3).e : Nat), .int .i64 ((rs3).o : Nat), .int .i64 (rq3 : Nat), .string rq2, .bool yb]); have rHC3 := Lib.hid (below_putRow rHD3.out (show w.heap.size ≤ w.heap.size by omega) #[.string B, .int .i64 ((rs3).p : Nat), .int .i64 ((rs3).e : Nat), .int .i64 ((rs3).o : Nat), .int .i64 (rq3 : Nat), .string rq2, .bool yb]); have rHH3 := Lib.hid (grown_row rHG3.out #[.string B, .int .i64 ((rs3).p : Nat), .int .i64 ((rs3).e : Nat), .int .i64 ((rs3).o : Nat), .int .i64 (rq3 : Nat), .string rq2, .bool yb]); clear rHG3; clear rHR3 rHU3 rHD3 ; generalize rw3.setRow (w.heap.size) #[.string B, .int .i64 ((rs3).p : Nat), .int .i64 ((rs3).e : Nat), .int .i64 ((rs3).o : Nat), .int .i64 (rq3 : Nat), .string rq2, .bool yb] = ru3 at *; obtain ⟨d0, d1, d2, d3, d4, d5, d6⟩ := stcell (s := rs3) rHI3.out; have xo := rHY3.out.cell 2; simp only [List.getElem?_toArray, List.getElem?_cons_zero, List.getElem?_cons_succ] at xo; have xf := rHY3.out.frozen 2; have rHS3 := Lib.hid (rHI3.out.far (p := ⟨wr.heap.size, 2, none⟩) (show w.heap.size ≠ wr.heap.size by omega) (.int .i64 (rq3 : Nat))); have rHX3 : Hid (Box (ru3.setCell ⟨wr.heap.size, 2, none⟩ (.int .i64 (rq3 : Nat))) (wr.heap.size) 67 #[.string (rq1), .string (rq2), .int .i64 (rq3 : Nat), .int .i64 0, .int .i64 0, .int .i64 0, .int .i64 0, .int .i64 0, .int .i64 0, .int .i64 0, .int .i64 0, .int .i64 0]) := Lib.hid (rHY3.out.put 2 (.int .i64 (rq3 : Nat))); have rHB3 := Lib.hid (rHC3.out.setCell (p := ⟨wr.heap.size, 2, none⟩) (show w.heap.size ≤ wr.heap.size by omega) (.int .i64 (rq3 : Nat))); have rHG3 := Lib.hid (grown_put rHH3.out (show wr.heap.size ≤ wr.heap.size by omega) 2 (.int .i64 (rq3 : Nat))); obtain ⟨e0, e1, e2, e3, e4, e5, e6⟩ := stcell (s := rs3) rHS3.out)
      clear d0 d1 d2 d3 d4 d5 d6 xo xf e0 e1 e2 e3 e4 e5 e6 rHI3 rHY3 rHC3  rHH3
      generalize ru3.setCell ⟨wr.heap.size, 2, none⟩ (.int .i64 (rq3 : Nat)) = rV3 at *
      refine (HPa.out _).mono ?_
      rintro e wa ⟨⟨na, rfl⟩, hb⟩
      have hsa := hb.size
      have HSa := Lib.hid (((rHS3.out.below hb rHS3.out.lt).alloc (.cells #[.string B, .int .i64 ((t4).p : Nat), .int .i64 ((t4).e : Nat), .int .i64 ((t4).o : Nat), .int .i64 na, .string rq2, .bool yb] 85)).alloc (.cells #[.int .i64 pa.r, .int .i64 pa.b, .int .i64 pa.f, .int .i64 pa.c] 65))
      have HXa := Lib.hid (((rHX3.out.below hb rHX3.out.lt).alloc (.cells #[.string B, .int .i64 ((t4).p : Nat), .int .i64 ((t4).e : Nat), .int .i64 ((t4).o : Nat), .int .i64 na, .string rq2, .bool yb] 85)).alloc (.cells #[.int .i64 pa.r, .int .i64 pa.b, .int .i64 pa.f, .int .i64 pa.c] 65))
      have hbw := rHB3.out.trans (hb.mono rHB3.out.size)
      have HBa := Lib.hid ((hbw.alloc hbw.size (.cells #[.string B, .int .i64 ((t4).p : Nat), .int .i64 ((t4).e : Nat), .int .i64 ((t4).o : Nat), .int .i64 na, .string rq2, .bool yb] 85)).alloc (by have := hbw.size; simp; omega) (.cells #[.int .i64 pa.r, .int .i64 pa.b, .int .i64 pa.f, .int .i64 pa.c] 65))
      have HGa := Lib.hid (grown_al (grown_al (grown_call rHG3.out hb) (.cells #[.string B, .int .i64 ((t4).p : Nat), .int .i64 ((t4).e : Nat), .int .i64 ((t4).o : Nat), .int .i64 na, .string rq2, .bool yb] 85)) (.cells #[.int .i64 pa.r, .int .i64 pa.b, .int .i64 pa.f, .int .i64 pa.c] 65))
      have H8 := Lib.hid ((Box.new wa 85 #[.string B, .int .i64 ((t4).p : Nat), .int .i64 ((t4).e : Nat), .int .i64 ((t4).o : Nat), .int .i64 na, .string rq2, .bool yb]).alloc (.cells #[.int .i64 pa.r, .int .i64 pa.b, .int .i64 pa.f, .int .i64 pa.c] 65))
      have H9 := Lib.hid (box_new2 wa (.cells #[.string B, .int .i64 ((t4).p : Nat), .int .i64 ((t4).e : Nat), .int .i64 ((t4).o : Nat), .int .i64 na, .string rq2, .bool yb] 85) 65 #[.int .i64 pa.r, .int .i64 pa.b, .int .i64 pa.f, .int .i64 pa.c])
      have hza : w.heap.size + 4 < wa.heap.size := by have := rHX3.out.lt; omega
      have hzx : wr.heap.size < wa.heap.size := by have := rHX3.out.lt; omega
      clear hb hbw hsa rHS3 rHX3 rHB3 rHG3 HPa
      go_upto_region 19 with fail
      generalize (wa.alloc (.cells #[.string B, .int .i64 ((t4).p : Nat), .int .i64 ((t4).e : Nat), .int .i64 ((t4).o : Nat), .int .i64 na, .string rq2, .bool yb] 85)).alloc (.cells #[.int .i64 pa.r, .int .i64 pa.b, .int .i64 pa.f, .int .i64 pa.c] 65) = Va at *
      obtain ⟨e0, e1, e2, e3, e4, e5, e6⟩ := stcell (s := t4) H8.out
      go_wp2_with fail
      refine (HPb.out na _).mono ?_
      rintro e wb ⟨⟨nb, rfl⟩, hb⟩
      clear e0 e1 e2 e3 e4 e5 e6
      have HSb := Lib.hid (((HSa.out.below hb HSa.out.lt).alloc (.cells #[.string B, .int .i64 ((t5).p : Nat), .int .i64 ((t5).e : Nat), .int .i64 ((t5).o : Nat), .int .i64 nb, .string rq2, .bool yb] 85)).alloc (.cells #[.int .i64 pb.r, .int .i64 pb.b, .int .i64 pb.f, .int .i64 pb.c] 65))
      have HXb := Lib.hid (((HXa.out.below hb HXa.out.lt).alloc (.cells #[.string B, .int .i64 ((t5).p : Nat), .int .i64 ((t5).e : Nat), .int .i64 ((t5).o : Nat), .int .i64 nb, .string rq2, .bool yb] 85)).alloc (.cells #[.int .i64 pb.r, .int .i64 pb.b, .int .i64 pb.f, .int .i64 pb.c] 65))
      have hbw := HBa.out.trans (hb.mono HBa.out.size)
      have HBb := Lib.hid ((hbw.alloc hbw.size (.cells #[.string B, .int .i64 ((t5).p : Nat), .int .i64 ((t5).e : Nat), .int .i64 ((t5).o : Nat), .int .i64 nb, .string rq2, .bool yb] 85)).alloc (by have := hbw.size; simp; omega) (.cells #[.int .i64 pb.r, .int .i64 pb.b, .int .i64 pb.f, .int .i64 pb.c] 65))
      have HGb := Lib.hid (grown_al (grown_al (grown_call HGa.out hb) (.cells #[.string B, .int .i64 ((t5).p : Nat), .int .i64 ((t5).e : Nat), .int .i64 ((t5).o : Nat), .int .i64 nb, .string rq2, .bool yb] 85)) (.cells #[.int .i64 pb.r, .int .i64 pb.b, .int .i64 pb.f, .int .i64 pb.c] 65))
      have H9b := Lib.hid (((H9.out.below hb H9.out.lt).alloc (.cells #[.string B, .int .i64 ((t5).p : Nat), .int .i64 ((t5).e : Nat), .int .i64 ((t5).o : Nat), .int .i64 nb, .string rq2, .bool yb] 85)).alloc (.cells #[.int .i64 pb.r, .int .i64 pb.b, .int .i64 pb.f, .int .i64 pb.c] 65))
      have H10 := Lib.hid ((Box.new wb 85 #[.string B, .int .i64 ((t5).p : Nat), .int .i64 ((t5).e : Nat), .int .i64 ((t5).o : Nat), .int .i64 nb, .string rq2, .bool yb]).alloc (.cells #[.int .i64 pb.r, .int .i64 pb.b, .int .i64 pb.f, .int .i64 pb.c] 65))
      have H11 := Lib.hid (box_new2 wb (.cells #[.string B, .int .i64 ((t5).p : Nat), .int .i64 ((t5).e : Nat), .int .i64 ((t5).o : Nat), .int .i64 nb, .string rq2, .bool yb] 85) 65 #[.int .i64 pb.r, .int .i64 pb.b, .int .i64 pb.f, .int .i64 pb.c])
      have hzb : wa.heap.size + 1 < wb.heap.size := by have := H9.out.lt; have := hb.size; omega
      clear hb hbw HSa HXa HBa HGa H8 H9 HPb
      go_upto_region 20 with fail
      generalize (wb.alloc (.cells #[.string B, .int .i64 ((t5).p : Nat), .int .i64 ((t5).e : Nat), .int .i64 ((t5).o : Nat), .int .i64 nb, .string rq2, .bool yb] 85)).alloc (.cells #[.int .i64 pb.r, .int .i64 pb.b, .int .i64 pb.f, .int .i64 pb.c] 65) = Vb at *
      obtain ⟨e0, e1, e2, e3, e4, e5, e6⟩ := stcell (s := t5) H10.out
      have HSc := Lib.hid (box_set HSb.out #[.string B, .int .i64 ((t5).p : Nat), .int .i64 ((t5).e : Nat), .int .i64 ((t5).o : Nat), .int .i64 nb, .string rq2, .bool yb])
      have HXc := Lib.hid (box_off HXb.out (show wr.heap.size ≠ w.heap.size by omega) #[.string B, .int .i64 ((t5).p : Nat), .int .i64 ((t5).e : Nat), .int .i64 ((t5).o : Nat), .int .i64 nb, .string rq2, .bool yb])
      have HBc := Lib.hid (below_putRow HBb.out (Nat.le_refl _) #[.string B, .int .i64 ((t5).p : Nat), .int .i64 ((t5).e : Nat), .int .i64 ((t5).o : Nat), .int .i64 nb, .string rq2, .bool yb])
      have HGc := Lib.hid (grown_row HGb.out #[.string B, .int .i64 ((t5).p : Nat), .int .i64 ((t5).e : Nat), .int .i64 ((t5).o : Nat), .int .i64 nb, .string rq2, .bool yb])
      have H9c := Lib.hid (box_off H9b.out (show wa.heap.size + 1 ≠ w.heap.size by omega) #[.string B, .int .i64 ((t5).p : Nat), .int .i64 ((t5).e : Nat), .int .i64 ((t5).o : Nat), .int .i64 nb, .string rq2, .bool yb])
      have H11c := Lib.hid (box_off H11.out (show wb.heap.size + 1 ≠ w.heap.size by omega) #[.string B, .int .i64 ((t5).p : Nat), .int .i64 ((t5).e : Nat), .int .i64 ((t5).o : Nat), .int .i64 nb, .string rq2, .bool yb])
      go_upto_region 21 with (refine wpList_store_row rfl 85 (.tmp 1) (.tmp 59) rfl (w.heap.size) 85 _ #[.string B, .int .i64 ((t5).p : Nat), .int .i64 ((t5).e : Nat), .int .i64 ((t5).o : Nat), .int .i64 nb, .string rq2, .bool yb] rfl rfl HSb.out (size_st _ _ _ _ _ _ _) rfl (by simp [Value.oneCell']) ?_)
      clear e0 e1 e2 e3 e4 e5 e6 HSb HXb HBb HGb H9b H10 H11
      generalize Vb.setRow (w.heap.size) #[.string B, .int .i64 ((t5).p : Nat), .int .i64 ((t5).e : Nat), .int .i64 ((t5).o : Nat), .int .i64 nb, .string rq2, .bool yb] = Vc at *
      have p0 := H9c.out.cell 0
      have p1 := H9c.out.cell 1
      have p2 := H9c.out.cell 2
      have p3 := H9c.out.cell 3
      simp only [List.getElem?_toArray, List.getElem?_cons_zero, List.getElem?_cons_succ] at p0 p1 p2 p3
      have HSd := Lib.hid (box_off HSc.out (show w.heap.size ≠ wr.heap.size by omega) #[.string rq1, .string rq2, .int .i64 (rq3 : Nat), .int .i64 pa.r, .int .i64 pa.b, .int .i64 pa.f, .int .i64 pa.c, .int .i64 0, .int .i64 0, .int .i64 0, .int .i64 0, .int .i64 0])
      have HXd := Lib.hid (box_set HXc.out #[.string rq1, .string rq2, .int .i64 (rq3 : Nat), .int .i64 pa.r, .int .i64 pa.b, .int .i64 pa.f, .int .i64 pa.c, .int .i64 0, .int .i64 0, .int .i64 0, .int .i64 0, .int .i64 0])
      have HBd := Lib.hid (below_putRow HBc.out (show w.heap.size ≤ wr.heap.size by omega) #[.string rq1, .string rq2, .int .i64 (rq3 : Nat), .int .i64 pa.r, .int .i64 pa.b, .int .i64 pa.f, .int .i64 pa.c, .int .i64 0, .int .i64 0, .int .i64 0, .int .i64 0, .int .i64 0])
      have HGd := Lib.hid (grown_part HGc.out (Nat.le_refl _) #[.string rq1, .string rq2, .int .i64 (rq3 : Nat), .int .i64 pa.r, .int .i64 pa.b, .int .i64 pa.f, .int .i64 pa.c, .int .i64 0, .int .i64 0, .int .i64 0, .int .i64 0, .int .i64 0])
      have H11d := Lib.hid (box_off H11c.out (show wb.heap.size + 1 ≠ wr.heap.size by omega) #[.string rq1, .string rq2, .int .i64 (rq3 : Nat), .int .i64 pa.r, .int .i64 pa.b, .int .i64 pa.f, .int .i64 pa.c, .int .i64 0, .int .i64 0, .int .i64 0, .int .i64 0, .int .i64 0])
      go_upto_region 22 with (refine wpList_store_part rfl 65 (.tmp 61) (.tmp 60) rfl (wr.heap.size) 3 67 _ #[.int .i64 pa.r, .int .i64 pa.b, .int .i64 pa.f, .int .i64 pa.c] #[.string rq1, .string rq2, .int .i64 (rq3 : Nat), .int .i64 pa.r, .int .i64 pa.b, .int .i64 pa.f, .int .i64 pa.c, .int .i64 0, .int .i64 0, .int .i64 0, .int .i64 0, .int .i64 0] rfl rfl HXc.out (by show (Try.prog.info? 65).map (·.size) = some 4; kernel_rfl) (Nat.le_of_ble_eq_true rfl) (by simp [Value.oneCell']) rfl ?_)
      clear p0 p1 p2 p3 HSc HXc HBc HGc H9c
      generalize Vc.setRow (wr.heap.size) #[.string rq1, .string rq2, .int .i64 (rq3 : Nat), .int .i64 pa.r, .int .i64 pa.b, .int .i64 pa.f, .int .i64 pa.c, .int .i64 0, .int .i64 0, .int .i64 0, .int .i64 0, .int .i64 0] = Vd at *
      have p0 := H11d.out.cell 0
      have p1 := H11d.out.cell 1
      have p2 := H11d.out.cell 2
      have p3 := H11d.out.cell 3
      simp only [List.getElem?_toArray, List.getElem?_cons_zero, List.getElem?_cons_succ] at p0 p1 p2 p3
      clear H11c
      have HSe := Lib.hid (box_off HSd.out (show w.heap.size ≠ wr.heap.size by omega) #[.string rq1, .string rq2, .int .i64 (rq3 : Nat), .int .i64 pa.r, .int .i64 pa.b, .int .i64 pa.f, .int .i64 pa.c, .int .i64 pb.r, .int .i64 pb.b, .int .i64 pb.f, .int .i64 pb.c, .int .i64 0])
      have HXe := Lib.hid (box_set HXd.out #[.string rq1, .string rq2, .int .i64 (rq3 : Nat), .int .i64 pa.r, .int .i64 pa.b, .int .i64 pa.f, .int .i64 pa.c, .int .i64 pb.r, .int .i64 pb.b, .int .i64 pb.f, .int .i64 pb.c, .int .i64 0])
      have HBe := Lib.hid (below_putRow HBd.out (show w.heap.size ≤ wr.heap.size by omega) #[.string rq1, .string rq2, .int .i64 (rq3 : Nat), .int .i64 pa.r, .int .i64 pa.b, .int .i64 pa.f, .int .i64 pa.c, .int .i64 pb.r, .int .i64 pb.b, .int .i64 pb.f, .int .i64 pb.c, .int .i64 0])
      have HGe := Lib.hid (grown_part HGd.out (Nat.le_refl _) #[.string rq1, .string rq2, .int .i64 (rq3 : Nat), .int .i64 pa.r, .int .i64 pa.b, .int .i64 pa.f, .int .i64 pa.c, .int .i64 pb.r, .int .i64 pb.b, .int .i64 pb.f, .int .i64 pb.c, .int .i64 0])
      go_upto_region 23 with (refine wpList_store_part rfl 65 (.tmp 63) (.tmp 62) rfl (wr.heap.size) 7 67 _ #[.int .i64 pb.r, .int .i64 pb.b, .int .i64 pb.f, .int .i64 pb.c] #[.string rq1, .string rq2, .int .i64 (rq3 : Nat), .int .i64 pa.r, .int .i64 pa.b, .int .i64 pa.f, .int .i64 pa.c, .int .i64 pb.r, .int .i64 pb.b, .int .i64 pb.f, .int .i64 pb.c, .int .i64 0] rfl rfl HXd.out (by show (Try.prog.info? 65).map (·.size) = some 4; kernel_rfl) (Nat.le_of_ble_eq_true rfl) (by simp [Value.oneCell']) rfl ?_)
      clear p0 p1 p2 p3 HSd HXd HBd HGd H11d
      generalize Vd.setRow (wr.heap.size) #[.string rq1, .string rq2, .int .i64 (rq3 : Nat), .int .i64 pa.r, .int .i64 pa.b, .int .i64 pa.f, .int .i64 pa.c, .int .i64 pb.r, .int .i64 pb.b, .int .i64 pb.f, .int .i64 pb.c, .int .i64 0] = Ve at *
      obtain ⟨e0, e1, e2, e3, e4, e5, e6⟩ := stcell (s := t5) HSe.out
      go_wp2_with fail
      refine (HT6.out nb _).mono ?_
      rintro e wf ⟨rfl, hb⟩
      clear e0 e1 e2 e3 e4 e5 e6
      have HSf0 := Lib.hid (HSe.out.below hb HSe.out.lt)
      have HXf := Lib.hid (box_off (HXe.out.below hb HXe.out.lt) (show wr.heap.size ≠ w.heap.size by omega) #[.string B, .int .i64 ((t6).p : Nat), .int .i64 ((t6).e : Nat), .int .i64 ((t6).o : Nat), .int .i64 (q6 : Nat), .string rq2, .bool yb])
      have HSf := Lib.hid (box_set HSf0.out #[.string B, .int .i64 ((t6).p : Nat), .int .i64 ((t6).e : Nat), .int .i64 ((t6).o : Nat), .int .i64 (q6 : Nat), .string rq2, .bool yb])
      have HBf := Lib.hid (below_putRow (HBe.out.trans (hb.mono HBe.out.size)) (Nat.le_refl _) #[.string B, .int .i64 ((t6).p : Nat), .int .i64 ((t6).e : Nat), .int .i64 ((t6).o : Nat), .int .i64 (q6 : Nat), .string rq2, .bool yb])
      have HGf := Lib.hid (grown_row (grown_call HGe.out hb) #[.string B, .int .i64 ((t6).p : Nat), .int .i64 ((t6).e : Nat), .int .i64 ((t6).o : Nat), .int .i64 (q6 : Nat), .string rq2, .bool yb])
      clear hb HSe HXe HBe HGe HT6
      go_upto_region 24 with (refine wpList_store_row rfl 85 (.tmp 1) (.tmp 65) rfl (w.heap.size) 85 _ #[.string B, .int .i64 ((t6).p : Nat), .int .i64 ((t6).e : Nat), .int .i64 ((t6).o : Nat), .int .i64 (q6 : Nat), .string rq2, .bool yb] rfl rfl HSf0.out (size_st _ _ _ _ _ _ _) rfl (by simp [Value.oneCell']) ?_)
      generalize wf.setRow (w.heap.size) #[.string B, .int .i64 ((t6).p : Nat), .int .i64 ((t6).e : Nat), .int .i64 ((t6).o : Nat), .int .i64 (q6 : Nat), .string rq2, .bool yb] = Vf at *
      clear HSf0
      have e4 := HSf.out.cell 4
      have xo := HXf.out.cell 11
      simp only [List.getElem?_toArray, List.getElem?_cons_zero, List.getElem?_cons_succ] at xo e4
      have xf := HXf.out.frozen 11
      have HSg := Lib.hid (HSf.out.far (p := ⟨wr.heap.size, 11, none⟩) (show w.heap.size ≠ wr.heap.size by omega) (.int .i64 (q6 : Nat)))
      have HXg : Hid (Box (Vf.setCell ⟨wr.heap.size, 11, none⟩ (.int .i64 (q6 : Nat))) (wr.heap.size) 67 #[.string rq1, .string rq2, .int .i64 (rq3 : Nat), .int .i64 pa.r, .int .i64 pa.b, .int .i64 pa.f, .int .i64 pa.c, .int .i64 pb.r, .int .i64 pb.b, .int .i64 pb.f, .int .i64 pb.c, .int .i64 (q6 : Nat)]) := Lib.hid (HXf.out.put 11 (.int .i64 (q6 : Nat)))
      have HBg := Lib.hid (HBf.out.setCell (p := ⟨wr.heap.size, 11, none⟩) (show w.heap.size ≤ wr.heap.size by omega) (.int .i64 (q6 : Nat)))
      have HGg := Lib.hid (grown_put HGf.out (Nat.le_refl _) 11 (.int .i64 (q6 : Nat)))
      go_upto_region 25 with fail
      clear e4 xo xf HSf HXf HBf HGf
      generalize Vf.setCell ⟨wr.heap.size, 11, none⟩ (.int .i64 (q6 : Nat)) = Vg at *
      have HL2 : Hid (Rl w Vg B t6 (q6 : Nat) rq2 yb q1 (q2 : Nat) A k c' xs) := Lib.hid (rl_grown HL.out HGg.out HSg.out HBg.out)
      clear HL HSg HBg HGg
      have d2 : Vg.cell? ⟨w.heap.size + 3, 2, none⟩ = some (.slice A k c') := HL2.out.df.cell 2
      have x0 := HXg.out.cell 0
      have x1 := HXg.out.cell 1
      have x2 := HXg.out.cell 2
      have x3 := HXg.out.cell 3
      have x4 := HXg.out.cell 4
      have x5 := HXg.out.cell 5
      have x6 := HXg.out.cell 6
      have x7 := HXg.out.cell 7
      have x8 := HXg.out.cell 8
      have x9 := HXg.out.cell 9
      have x10 := HXg.out.cell 10
      have x11 := HXg.out.cell 11
      simp only [List.getElem?_toArray, List.getElem?_cons_zero, List.getElem?_cons_succ] at x0 x1 x2 x3 x4 x5 x6 x7 x8 x9 x10 x11
      go_wp2_with (at_builtin; refine wpList_append_own_at _ rfl (.tmp 70) (.tmp 72) 22 rfl w.heap.size 67 i0 zstep 12 112 Try.underlying22 hi0 hz0 hz1 hz2 rfl (by decide) _ k _ rfl (HL2.out.own.alloc _) ⟨Vg.heap.size, 0, none⟩ 1 1 (⟨rq1, rq2, (rq3 : Nat), pa, pb, (q6 : Nat)⟩ : Stp).cells rfl (by rfl) (new_cells Vg (⟨rq1, rq2, (rq3 : Nat), pa, pb, (q6 : Nat)⟩ : Stp)) (cells_one _) (by unfold maxLen; omega) (by omega) (by have := HL2.out.bel.size; simp; omega) ?_; intro v2 w2 hown2 hg2 hn2 ha2; rw [← cellsS_snoc] at hown2; obtain ⟨A2, c2, rfl, hc2⟩ := own_form12 hown2; have HM := Lib.hid (app_rl HL2.out hg2 hown2); clear hown2 hg2 hn2 ha2; have d2 := HM.out.1.cell 2; have f2 := HM.out.1.frozen 2; simp only [List.getElem?_toArray, List.getElem?_cons_zero, List.getElem?_cons_succ] at d2)
      go_roundw
      case rel => exact ⟨k + 1, by go_num, by omega, _, _, _, A2, c2, Lib.hid (by rw [HSn.out.1, HSn.out.2, HQs.out.1, HQs.out.2]; exact HM.out.2)⟩
      case measure => simp only [intOf]; omega
    · obtain rfl : k = N := by omega
      have HLs := Lib.hid HL.out.st
      have HLy := Lib.hid HL.out.z2
      have HLz := Lib.hid HL.out.z3
      have HLx := Lib.hid HL.out.df
      have HLb := Lib.hid HL.out.bel
      have HLo := Lib.hid HL.out.own
      clear HL
      obtain ⟨xs, hxs⟩ : ∃ xs, xs = stepsQ B.data.toList k s3 := ⟨_, rfl⟩
      obtain ⟨t, ht⟩ : ∃ z, z = stepsS B.data.toList k s3 := ⟨_, rfl⟩
      rw [← ht] at HLs
      rw [← hxs] at HLo
      rw [← ht, ← hxs] at HF
      clear hxs ht
      go_wp2_with fail
      have z0 : ∀ v, Box v (w.heap.size) 85 #[.string B, .int .i64 ((t).p : Nat), .int .i64 ((t).e : Nat), .int .i64 ((t).o : Nat), .int .i64 n2, .string S2, .bool yb] ∧ Box v (w.heap.size + 3) 24 #[.string q1, .int .i64 (q2 : Nat), .slice A k c'] → v.cell? ⟨w.heap.size, 0, none⟩ = some (.string B) := fun v h => h.1.cell 0
      have z1 : ∀ v, Box v (w.heap.size) 85 #[.string B, .int .i64 ((t).p : Nat), .int .i64 ((t).e : Nat), .int .i64 ((t).o : Nat), .int .i64 n2, .string S2, .bool yb] ∧ Box v (w.heap.size + 3) 24 #[.string q1, .int .i64 (q2 : Nat), .slice A k c'] → v.cell? ⟨w.heap.size, 1, none⟩ = some (.int .i64 ((t).p : Nat)) := fun v h => h.1.cell 1
      have z2 : ∀ v, Box v (w.heap.size) 85 #[.string B, .int .i64 ((t).p : Nat), .int .i64 ((t).e : Nat), .int .i64 ((t).o : Nat), .int .i64 n2, .string S2, .bool yb] ∧ Box v (w.heap.size + 3) 24 #[.string q1, .int .i64 (q2 : Nat), .slice A k c'] → v.cell? ⟨w.heap.size, 2, none⟩ = some (.int .i64 ((t).e : Nat)) := fun v h => h.1.cell 2
      have z3 : ∀ v, Box v (w.heap.size) 85 #[.string B, .int .i64 ((t).p : Nat), .int .i64 ((t).e : Nat), .int .i64 ((t).o : Nat), .int .i64 n2, .string S2, .bool yb] ∧ Box v (w.heap.size + 3) 24 #[.string q1, .int .i64 (q2 : Nat), .slice A k c'] → v.cell? ⟨w.heap.size, 3, none⟩ = some (.int .i64 ((t).o : Nat)) := fun v h => h.1.cell 3
      have z4 : ∀ v, Box v (w.heap.size) 85 #[.string B, .int .i64 ((t).p : Nat), .int .i64 ((t).e : Nat), .int .i64 ((t).o : Nat), .int .i64 n2, .string S2, .bool yb] ∧ Box v (w.heap.size + 3) 24 #[.string q1, .int .i64 (q2 : Nat), .slice A k c'] → v.cell? ⟨w.heap.size, 4, none⟩ = some (.int .i64 n2) := fun v h => h.1.cell 4
      have z5 : ∀ v, Box v (w.heap.size) 85 #[.string B, .int .i64 ((t).p : Nat), .int .i64 ((t).e : Nat), .int .i64 ((t).o : Nat), .int .i64 n2, .string S2, .bool yb] ∧ Box v (w.heap.size + 3) 24 #[.string q1, .int .i64 (q2 : Nat), .slice A k c'] → v.cell? ⟨w.heap.size, 5, none⟩ = some (.string S2) := fun v h => h.1.cell 5
      have z6 : ∀ v, Box v (w.heap.size) 85 #[.string B, .int .i64 ((t).p : Nat), .int .i64 ((t).e : Nat), .int .i64 ((t).o : Nat), .int .i64 n2, .string S2, .bool yb] ∧ Box v (w.heap.size + 3) 24 #[.string q1, .int .i64 (q2 : Nat), .slice A k c'] → v.cell? ⟨w.heap.size, 6, none⟩ = some (.bool yb) := fun v h => h.1.cell 6
      have y0 : ∀ v, Box v (w.heap.size) 85 #[.string B, .int .i64 ((t).p : Nat), .int .i64 ((t).e : Nat), .int .i64 ((t).o : Nat), .int .i64 n2, .string S2, .bool yb] ∧ Box v (w.heap.size + 3) 24 #[.string q1, .int .i64 (q2 : Nat), .slice A k c'] → v.cell? ⟨w.heap.size + 3, 0, none⟩ = some (.string q1) := fun v h => h.2.cell 0
      have y1 : ∀ v, Box v (w.heap.size) 85 #[.string B, .int .i64 ((t).p : Nat), .int .i64 ((t).e : Nat), .int .i64 ((t).o : Nat), .int .i64 n2, .string S2, .bool yb] ∧ Box v (w.heap.size + 3) 24 #[.string q1, .int .i64 (q2 : Nat), .slice A k c'] → v.cell? ⟨w.heap.size + 3, 1, none⟩ = some (.int .i64 (q2 : Nat)) := fun v h => h.2.cell 1
      have y2 : ∀ v, Box v (w.heap.size) 85 #[.string B, .int .i64 ((t).p : Nat), .int .i64 ((t).e : Nat), .int .i64 ((t).o : Nat), .int .i64 n2, .string S2, .bool yb] ∧ Box v (w.heap.size + 3) 24 #[.string q1, .int .i64 (q2 : Nat), .slice A k c'] → v.cell? ⟨w.heap.size + 3, 2, none⟩ = some (.slice A k c') := fun v h => h.2.cell 2
      have hs := box_off (HLz.out.drewN 1) (show w.heap.size + 2 ≠ w.heap.size + 1 by omega) #[.string B, .int .i64 ((t).p : Nat), .int .i64 ((t).e : Nat), .int .i64 ((t).o : Nat), .int .i64 n2, .string S2, .bool yb]
      have hA := Lib.hid (⟨HLs.out.drewN 1, HLx.out.drewN 1⟩ : (fun v => Box v (w.heap.size) 85 #[.string B, .int .i64 ((t).p : Nat), .int .i64 ((t).e : Nat), .int .i64 ((t).o : Nat), .int .i64 n2, .string S2, .bool yb] ∧ Box v (w.heap.size + 3) 24 #[.string q1, .int .i64 (q2 : Nat), .slice A k c']) (wr.drewN 1))
      refine wp_region_held_drew (S := fun v => Box v (w.heap.size) 85 #[.string B, .int .i64 ((t).p : Nat), .int .i64 ((t).e : Nat), .int .i64 ((t).o : Nat), .int .i64 n2, .string S2, .bool yb] ∧ Box v (w.heap.size + 3) 24 #[.string q1, .int .i64 (q2 : Nat), .slice A k c']) (by kernel_rfl) (hA.out) (fun hHeld => ?_)
      refine wpAnyH_take (i := 0) (oi := ⟨some 75, _, _, _, _, _⟩) (v := ?_) rfl (by kernel_rfl) (by kernel_rfl) (by kernel_rfl) (fun _ _ _ h => h) (Or.inl ⟨by rfl, ?_⟩) (by assumption) ?_
      rotate_left
      · (intro u hu; (try dsimp only at hu); go_simp; (try with_reducible rfl))
      (try simp only [Act.put, List.setIfInBounds_toArray, List.set_cons_zero, List.set_cons_succ])
      refine wpAnyH_take (i := 1) (oi := ⟨some 76, _, _, _, _, _⟩) (v := ?_) rfl (by kernel_rfl) (by kernel_rfl) (by kernel_rfl) (fun _ _ _ h => h) (Or.inl ⟨by rfl, ?_⟩) (by assumption) ?_
      rotate_left
      · (intro u hu; (try dsimp only at hu); go_simp; (try with_reducible rfl))
      (try simp only [Act.put, List.setIfInBounds_toArray, List.set_cons_zero, List.set_cons_succ])
      refine wpAnyH_ready (rs := [2]) (by decide +kernel) (by simp) ?_
      refine AllReadyH.cons (o := ⟨none, _, _, _, _, _⟩) rfl (fun K hK => ?_) AllReadyH.nil
      rw [if_pos (by rfl)]
      refine oper_store 85 _ _ rfl (w.heap.size + 1) 85 _ #[.string B, .int .i64 ((t).p : Nat), .int .i64 ((t).e : Nat), .int .i64 ((t).o : Nat), .int .i64 n2, .string S2, .bool yb] rfl rfl (HLy.out.drewN 1) (size_st _ _ _ _ _ _ _) rfl (by simp [Value.oneCell']) ?_
      have hA := Lib.hid (⟨box_off hA.out.1 (show w.heap.size ≠ w.heap.size + 1 by omega) #[.string B, .int .i64 ((t).p : Nat), .int .i64 ((t).e : Nat), .int .i64 ((t).o : Nat), .int .i64 n2, .string S2, .bool yb], box_off hA.out.2 (show w.heap.size + 3 ≠ w.heap.size + 1 by omega) #[.string B, .int .i64 ((t).p : Nat), .int .i64 ((t).e : Nat), .int .i64 ((t).o : Nat), .int .i64 n2, .string S2, .bool yb]⟩ : (fun v => Box v (w.heap.size) 85 #[.string B, .int .i64 ((t).p : Nat), .int .i64 ((t).e : Nat), .int .i64 ((t).o : Nat), .int .i64 n2, .string S2, .bool yb] ∧ Box v (w.heap.size + 3) 24 #[.string q1, .int .i64 (q2 : Nat), .slice A k c']) (_ : World))
      refine hK.out _ _ ?_ (fun hHeld => ?_)
      · exact hA.out
      clear hK K
      (try simp only [Act.put])
      refine wpAnyH_ready (rs := [3]) (by decide +kernel) (by simp) ?_
      refine AllReadyH.cons (o := ⟨none, _, _, _, _, _⟩) rfl (fun K hK => ?_) AllReadyH.nil
      rw [if_pos (by rfl)]
      refine oper_store 24 _ _ rfl (w.heap.size + 2) 24 _ #[.string q1, .int .i64 (q2 : Nat), .slice A k c'] rfl rfl hs (by show (Try.prog.info? 24).map (·.size) = some 3; kernel_rfl) rfl (by simp [Value.oneCell']) ?_
      have hA := Lib.hid (⟨box_off hA.out.1 (show w.heap.size ≠ w.heap.size + 2 by omega) #[.string q1, .int .i64 (q2 : Nat), .slice A k c'], box_off hA.out.2 (show w.heap.size + 3 ≠ w.heap.size + 2 by omega) #[.string q1, .int .i64 (q2 : Nat), .slice A k c']⟩ : (fun v => Box v (w.heap.size) 85 #[.string B, .int .i64 ((t).p : Nat), .int .i64 ((t).e : Nat), .int .i64 ((t).o : Nat), .int .i64 n2, .string S2, .bool yb] ∧ Box v (w.heap.size + 3) 24 #[.string q1, .int .i64 (q2 : Nat), .slice A k c']) (_ : World))
      refine hK.out _ _ ?_ (fun hHeld => ?_)
      · exact hA.out
      clear hK K
      (try simp only [Act.put])
      refine wpAnyH_done (by kernel_rfl) ?_ _
      clear z0 z1 z2 z3 z4 z5 z6 y0 y1 y2
      go_wp2_with fail
      refine bodyPost_ret (res_cc rfl _ _ (w.heap.size + 1) (w.heap.size + 2) #[.string B, .int .i64 ((t).p : Nat), .int .i64 ((t).e : Nat), .int .i64 ((t).o : Nat), .int .i64 n2, .string S2, .bool yb] #[.string q1, .int .i64 (q2 : Nat), .slice A k c'] Try.underlying85 Try.underlying24 (size_st _ _ _ _ _ _ _) (by show (Try.prog.info? 24).map (·.size) = some 3; kernel_rfl) rfl rfl (box_off (box_set (HLy.out.drewN 1) _) (by omega) _) (box_set hs _)) rfl (HF.out _ _ _ _ _ _ ?_ ?_)
      · exact below_putRow (below_putRow (Below.drew HLb.out) (by omega) _) (by omega) _
      · have h1 : (wr.drewN 1).ownsRow w.heap.size 67 12 (.slice A k c') k (cellsS xs) := HLo.out
        have h2 := h1.kept (setRow_grown (wr.drewN 1) (w.heap.size + 1) #[.string B, .int .i64 ((t).p : Nat), .int .i64 ((t).e : Nat), .int .i64 ((t).o : Nat), .int .i64 n2, .string S2, .bool yb]) (.inr (own_far h1 (HLy.out.drewN 1) (by decide)))
        exact h2.kept (setRow_grown _ (w.heap.size + 2) _) (.inr (own_far h2 hs (by decide)))
end Go.Proofs.Ytihkadbcjeohjaa.Co

namespace Go.Proofs.Ytihkadbcjeohjaa.Co
open Go.RowKit
open Go.Proofs.Ytihkadbcjeohjaa.El
open Go.Proofs.Ytihkadbcjeohjaa.Df
open Go.Proofs.Ytihkadbcjeohjaa.Bo (P Made ret_int ret_bool)
open Go.Proofs.Ytihkadbcjeohjaa.Sa (Sg Rp)

/-- where the end stands: the reader's state, what was taken so far, the answer's block, and the row of its steps -/
structure Re (w u : World) (B : ByteArray) (s : Ps) (m : Int) (S : ByteArray) (y : Bool) (v : Ev) (A : Option Addr) (n c : Nat) : Prop where
  st : Box u (w.heap.size + 1) 85 #[.string B, .int .i64 ((s).p : Nat), .int .i64 ((s).e : Nat), .int .i64 ((s).o : Nat), .int .i64 m, .string S, .bool y]
  xb : Box u (w.heap.size + 2) 51 #[.int .i64 v.k, .int .i64 v.now, .int .i64 v.sg, .string v.nm, .int .i64 v.r.sg, .int .i64 v.r.sp, .bool v.r.un, .int .i64 v.r.tr, .bool v.r.good, .string v.dn, .int .i64 v.dl, .slice A n c]
  rs : Box u w.heap.size 51 #[.int .i64 0, .int .i64 0, .int .i64 0, .string ⟨#[]⟩, .int .i64 0, .int .i64 0, .bool false, .int .i64 0, .bool false, .string ⟨#[]⟩, .int .i64 0, .slice none 0 0]
  bel : Below w.heap.size w u
  own : u.ownsRow w.heap.size 67 12 (.slice A n c) n (cellsS v.ss)
theorem Re.len {w u : World} {B : ByteArray} {s : Ps} {m : Int} {S : ByteArray} {y : Bool} {v : Ev} {A : Option Addr} {n c : Nat} (h : Re w u B s m S y v A n c) : n = v.ss.length := by
  have := h.own.1
  rw [cellsS_len] at this
  omega
theorem Re.cap {w u : World} {B : ByteArray} {s : Ps} {m : Int} {S : ByteArray} {y : Bool} {v : Ev} {A : Option Addr} {n c : Nat} (h : Re w u B s m S y v A n c) : n ≤ c := by
  rcases h.own.2 with ⟨h1, h0⟩ | ⟨g, cap, cur, h1, _, _, hc, _⟩
  · injection h1 with _ h2 h3; omega
  · injection h1 with _ h2 h3; omega
set_option maxHeartbeats 16000000 in
set_option maxRecDepth 100000 in
theorem readEvent_s (B : ByteArray) (w : World) (hB : B.size ≤ 1099511627776) : Calls Try.prog 20 #[.string B] w (EvTo w (evA B.data.toList)) := by
  have hk := Ok.zero hB
  obtain ⟨hx0, hx1, hx2⟩ := box3 w 51 85 51 #[.int .i64 0, .int .i64 0, .int .i64 0, .string ⟨#[]⟩, .int .i64 0, .int .i64 0, .bool false, .int .i64 0, .bool false, .string ⟨#[]⟩, .int .i64 0, .slice none 0 0] #[.string B, .int .i64 0, .int .i64 0, .int .i64 0, .int .i64 0, .string ⟨#[]⟩, .bool false] #[.int .i64 0, .int .i64 0, .int .i64 0, .string ⟨#[]⟩, .int .i64 0, .int .i64 0, .bool false, .int .i64 0, .bool false, .string ⟨#[]⟩, .int .i64 0, .slice none 0 0]
  have HO0_0 := Lib.hid hx0
  have HS0 : Hid (Box (((w.alloc (.cells #[.int .i64 0, .int .i64 0, .int .i64 0, .string ⟨#[]⟩, .int .i64 0, .int .i64 0, .bool false, .int .i64 0, .bool false, .string ⟨#[]⟩, .int .i64 0, .slice none 0 0] 51)).alloc (.cells #[.string B, .int .i64 0, .int .i64 0, .int .i64 0, .int .i64 0, .string ⟨#[]⟩, .bool false] 85)).alloc (.cells #[.int .i64 0, .int .i64 0, .int .i64 0, .string ⟨#[]⟩, .int .i64 0, .int .i64 0, .bool false, .int .i64 0, .bool false, .string ⟨#[]⟩, .int .i64 0, .slice none 0 0] 51)) (w.heap.size + 1) 85 #[.string B, .int .i64 ((at0 0).p : Nat), .int .i64 ((at0 0).e : Nat), .int .i64 ((at0 0).o : Nat), .int .i64 0, .string ⟨#[]⟩, .bool false]) := Lib.hid hx1
  have HX0 := Lib.hid hx2
  have HB0 : Hid (Below w.heap.size w (((w.alloc (.cells #[.int .i64 0, .int .i64 0, .int .i64 0, .string ⟨#[]⟩, .int .i64 0, .int .i64 0, .bool false, .int .i64 0, .bool false, .string ⟨#[]⟩, .int .i64 0, .slice none 0 0] 51)).alloc (.cells #[.string B, .int .i64 0, .int .i64 0, .int .i64 0, .int .i64 0, .string ⟨#[]⟩, .bool false] 85)).alloc (.cells #[.int .i64 0, .int .i64 0, .int .i64 0, .string ⟨#[]⟩, .int .i64 0, .int .i64 0, .bool false, .int .i64 0, .bool false, .string ⟨#[]⟩, .int .i64 0, .slice none 0 0] 51))) := Lib.hid (below3 w _ _ _)
  clear hx0 hx1 hx2
  obtain ⟨s1, hs1⟩ : ∃ t, t = numS B.data.toList (at0 0) := ⟨_, rfl⟩
  obtain ⟨q1, hq1⟩ : ∃ q, q = numQ B.data.toList (at0 0) := ⟨_, rfl⟩
  have HT1 : Hid (∀ W, Calls Try.prog 46 #[.agg #[.string B, .int .i64 ((at0 0).p : Nat), .int .i64 ((at0 0).e : Nat), .int .i64 ((at0 0).o : Nat), .int .i64 0, .string ⟨#[]⟩, .bool false]] W fun e w2 => e = .returned (.agg #[.string B, .int .i64 ((s1).p : Nat), .int .i64 ((s1).e : Nat), .int .i64 ((s1).o : Nat), .int .i64 (q1 : Nat), .string ⟨#[]⟩, .bool false]) ∧ Below W.heap.size W w2) := Lib.hid fun W => by rw [hs1, hq1]; exact takeN_s B (at0 0) _ _ _ W (hk)
  have ok1 : Ok B s1 := by rw [hs1]; exact Ok.num (hk)
  obtain ⟨s2, hs2⟩ : ∃ t, t = numS B.data.toList (s1) := ⟨_, rfl⟩
  obtain ⟨q2, hq2⟩ : ∃ q, q = numQ B.data.toList (s1) := ⟨_, rfl⟩
  have HT2 : Hid (∀ W, Calls Try.prog 46 #[.agg #[.string B, .int .i64 ((s1).p : Nat), .int .i64 ((s1).e : Nat), .int .i64 ((s1).o : Nat), .int .i64 (q1 : Nat), .string ⟨#[]⟩, .bool false]] W fun e w2 => e = .returned (.agg #[.string B, .int .i64 ((s2).p : Nat), .int .i64 ((s2).e : Nat), .int .i64 ((s2).o : Nat), .int .i64 (q2 : Nat), .string ⟨#[]⟩, .bool false]) ∧ Below W.heap.size W w2) := Lib.hid fun W => by rw [hs2, hq2]; exact takeN_s B (s1) _ _ _ W (ok1)
  have ok2 : Ok B s2 := by rw [hs2]; exact Ok.num (ok1)
  obtain ⟨s3, hs3⟩ : ∃ t, t = numS B.data.toList (s2) := ⟨_, rfl⟩
  obtain ⟨q3, hq3⟩ : ∃ q, q = numQ B.data.toList (s2) := ⟨_, rfl⟩
  have HT3 : Hid (∀ W, Calls Try.prog 46 #[.agg #[.string B, .int .i64 ((s2).p : Nat), .int .i64 ((s2).e : Nat), .int .i64 ((s2).o : Nat), .int .i64 (q2 : Nat), .string ⟨#[]⟩, .bool false]] W fun e w2 => e = .returned (.agg #[.string B, .int .i64 ((s3).p : Nat), .int .i64 ((s3).e : Nat), .int .i64 ((s3).o : Nat), .int .i64 (q3 : Nat), .string ⟨#[]⟩, .bool false]) ∧ Below W.heap.size W w2) := Lib.hid fun W => by rw [hs3, hq3]; exact takeN_s B (s2) _ _ _ W (ok2)
  have ok3 : Ok B s3 := by rw [hs3]; exact Ok.num (ok2)
  have HK1 : Hid (evK B.data.toList = q1) := Lib.hid hq1.symm
  have HEv : Hid (ev3 B.data.toList = s3) := Lib.hid (by rw [hs3, hs2, hs1]; rfl)
  have HN2 : Hid (numQ B.data.toList (numS B.data.toList zeroP) = q2) := Lib.hid (by rw [hq2, hs1]; rfl)
  have HN3 : Hid (numQ B.data.toList (numS B.data.toList (numS B.data.toList zeroP)) = q3) := Lib.hid (by rw [hq3, hs2, hs1]; rfl)
  have Hok3 := Lib.hid ok3
  clear ok3 hs3 hq3
  have Hok2 := Lib.hid ok2
  clear ok2 hs2 hq2
  have Hok1 := Lib.hid ok1
  clear ok1 hs1 hq1
  clear hk Hok1 Hok2
  go_enter Try.func20, Try.ntmps20
  go_upto_region 3 with fail
  generalize ((w.alloc (.cells #[.int .i64 0, .int .i64 0, .int .i64 0, .string ⟨#[]⟩, .int .i64 0, .int .i64 0, .bool false, .int .i64 0, .bool false, .string ⟨#[]⟩, .int .i64 0, .slice none 0 0] 51)).alloc (.cells #[.string B, .int .i64 0, .int .i64 0, .int .i64 0, .int .i64 0, .string ⟨#[]⟩, .bool false] 85)).alloc (.cells #[.int .i64 0, .int .i64 0, .int .i64 0, .string ⟨#[]⟩, .int .i64 0, .int .i64 0, .bool false, .int .i64 0, .bool false, .string ⟨#[]⟩, .int .i64 0, .slice none 0 0] 51) = W0 at *
  obtain ⟨e0, e1, e2, e3, e4, e5, e6⟩ := stcell (s := at0 0) HS0.out
  go_wp2_with fail
  refine (HT1.out _).mono ?_
  rintro e w1 ⟨rfl, hb⟩
  have HR1 := Lib.hid (HS0.out.below hb HS0.out.lt)
  have HU1 := Lib.hid (HX0.out.below hb HX0.out.lt)
  have HD1 := Lib.hid (HB0.out.trans (hb.mono HB0.out.size))
  have HV0_1 := Lib.hid (HO0_0.out.below hb HO0_0.out.lt)
  clear hb HS0 HX0 HB0 HO0_0 HT1
  clear e0 e1 e2 e3 e4 e5 e6
  go_upto_region 5 with (refine wpList_store_row rfl 85 (.tmp 5) (.tmp 13) rfl (w.heap.size + 1) 85 _ #[.string B, .int .i64 ((s1).p : Nat), .int .i64 ((s1).e : Nat), .int .i64 ((s1).o : Nat), .int .i64 (q1 : Nat), .string ⟨#[]⟩, .bool false] rfl rfl HR1.out (size_st _ _ _ _ _ _ _) rfl (by simp [Value.oneCell']) ?_; have HI1 := Lib.hid (box_set HR1.out #[.string B, .int .i64 ((s1).p : Nat), .int .i64 ((s1).e : Nat), .int .i64 ((s1).o : Nat), .int .i64 (q1 : Nat), .string ⟨#[]⟩, .bool false]); have HY1 := Lib.hid (box_off HU1.out (show w.heap.size + 2 ≠ w.heap.size + 1 by omega) #[.string B, .int .i64 ((s1).p : Nat), .int .i64 ((s1).e : Nat), .int .i64 ((s1).o : Nat), .int .i64 (q1 : Nat), .string ⟨#[]⟩, .bool false]); have HC1 := Lib.hid (below_putRow HD1.out (show w.heap.size ≤ w.heap.size + 1 by omega) #[.string B, .int .i64 ((s1).p : Nat), .int .i64 ((s1).e : Nat), .int .i64 ((s1).o : Nat), .int .i64 (q1 : Nat), .string ⟨#[]⟩, .bool false]); have HP0_1 := Lib.hid (box_off HV0_1.out (show w.heap.size ≠ w.heap.size + 1 by omega) #[.string B, .int .i64 ((s1).p : Nat), .int .i64 ((s1).e : Nat), .int .i64 ((s1).o : Nat), .int .i64 (q1 : Nat), .string ⟨#[]⟩, .bool false]); clear HR1 HU1 HD1 HV0_1; generalize w1.setRow (w.heap.size + 1) #[.string B, .int .i64 ((s1).p : Nat), .int .i64 ((s1).e : Nat), .int .i64 ((s1).o : Nat), .int .i64 (q1 : Nat), .string ⟨#[]⟩, .bool false] = u1 at *; obtain ⟨d0, d1, d2, d3, d4, d5, d6⟩ := stcell (s := s1) HI1.out; have xo := HY1.out.cell 0; simp only [List.getElem?_toArray, List.getElem?_cons_zero] at xo; have xf := HY1.out.frozen 0; have HS1 := Lib.hid (HI1.out.far (p := ⟨w.heap.size + 2, 0, none⟩) (show w.heap.size + 1 ≠ w.heap.size + 2 by omega) (.int .i64 (q1 : Nat))); have HX1 : Hid (Box (u1.setCell ⟨w.heap.size + 2, 0, none⟩ (.int .i64 (q1 : Nat))) (w.heap.size + 2) 51 #[.int .i64 (q1 : Nat), .int .i64 0, .int .i64 0, .string ⟨#[]⟩, .int .i64 0, .int .i64 0, .bool false, .int .i64 0, .bool false, .string ⟨#[]⟩, .int .i64 0, .slice none 0 0]) := Lib.hid (HY1.out.put 0 (.int .i64 (q1 : Nat))); have HB1 := Lib.hid (HC1.out.setCell (p := ⟨w.heap.size + 2, 0, none⟩) (show w.heap.size ≤ w.heap.size + 2 by omega) (.int .i64 (q1 : Nat))); have HO0_1 := Lib.hid (HP0_1.out.far (p := ⟨w.heap.size + 2, 0, none⟩) (show w.heap.size ≠ w.heap.size + 2 by omega) (.int .i64 (q1 : Nat))); obtain ⟨e0, e1, e2, e3, e4, e5, e6⟩ := stcell (s := s1) HS1.out)
  clear d0 d1 d2 d3 d4 d5 d6 xo xf e0 e1 e2 e3 e4 e5 e6 HI1 HY1 HC1 HP0_1
  generalize u1.setCell ⟨w.heap.size + 2, 0, none⟩ (.int .i64 (q1 : Nat)) = V1 at *
  by_cases hbig : 10 < q1
  · have HF0 : Hid (∀ w', Below w.heap.size w w' → EvTo w (evA B.data.toList) (.returned (.tuple #[.agg #[.int .i64 0, .int .i64 0, .int .i64 0, .string ⟨#[]⟩, .int .i64 0, .int .i64 0, .bool false, .int .i64 0, .bool false, .string ⟨#[]⟩, .int .i64 0, .slice none 0 0], .int .i64 0, .int .i64 11])) w') := Lib.hid fun w' hb => by
      unfold evA
      rw [if_pos (by rw [HK1.out]; exact hbig)]
      exact ⟨none, 0, 0, rfl, rfl, Nat.le_refl _, Els.nil _ _ _ _ _, hb⟩
    as_aux_lemma =>
      obtain ⟨e0, e1, e2, e3, e4, e5, e6⟩ := stcell (s := s1) HS1.out
      have m0 := HX1.out.cell 0
      simp only [List.getElem?_toArray, List.getElem?_cons_zero] at m0
      have kb : decide (10 < ((q1 : Nat) : Int)) = true := decide_eq_true (by omega)
      go_wp2_with (refine wpList_store_row rfl 51 (.tmp 2) (.tmp 20) rfl (w.heap.size) 51 _ #[.int .i64 0, .int .i64 0, .int .i64 0, .string ⟨#[]⟩, .int .i64 0, .int .i64 0, .bool false, .int .i64 0, .bool false, .string ⟨#[]⟩, .int .i64 0, .slice none 0 0] rfl rfl HO0_1.out (by show (Try.prog.info? 51).map (·.size) = some 12; kernel_rfl) rfl (by simp [Value.oneCell']) ?_)
      refine bodyPost_ret (res_ctt rfl _ _ (w.heap.size) #[.int .i64 0, .int .i64 0, .int .i64 0, .string ⟨#[]⟩, .int .i64 0, .int .i64 0, .bool false, .int .i64 0, .bool false, .string ⟨#[]⟩, .int .i64 0, .slice none 0 0] Try.underlying51 (by show (Try.prog.info? 51).map (·.size) = some 12; kernel_rfl) rfl (box_set HO0_1.out _)) rfl ?_
      exact HF0.out _ (below_putRow HB1.out (Nat.le_refl _) _)
  obtain ⟨e0, e1, e2, e3, e4, e5, e6⟩ := stcell (s := s1) HS1.out
  have m0 := HX1.out.cell 0
  simp only [List.getElem?_toArray, List.getElem?_cons_zero] at m0
  have kb : decide (10 < ((q1 : Nat) : Int)) = false := decide_eq_false (by omega)
  go_wp2_with fail
  clear e0 e1 e2 e3 e4 e5 e6 m0 kb
  refine (HT2.out _).mono ?_
  rintro e w2 ⟨rfl, hb⟩
  have HR2 := Lib.hid (HS1.out.below hb HS1.out.lt)
  have HU2 := Lib.hid (HX1.out.below hb HX1.out.lt)
  have HD2 := Lib.hid (HB1.out.trans (hb.mono HB1.out.size))
  have HV0_2 := Lib.hid (HO0_1.out.below hb HO0_1.out.lt)
  clear hb HS1 HX1 HB1 HO0_1 HT2
  go_wp2_with (refine wpList_store_row rfl 85 (.tmp 5) (.tmp 22) rfl (w.heap.size + 1) 85 _ #[.string B, .int .i64 ((s2).p : Nat), .int .i64 ((s2).e : Nat), .int .i64 ((s2).o : Nat), .int .i64 (q2 : Nat), .string ⟨#[]⟩, .bool false] rfl rfl HR2.out (size_st _ _ _ _ _ _ _) rfl (by simp [Value.oneCell']) ?_; have HI2 := Lib.hid (box_set HR2.out #[.string B, .int .i64 ((s2).p : Nat), .int .i64 ((s2).e : Nat), .int .i64 ((s2).o : Nat), .int .i64 (q2 : Nat), .string ⟨#[]⟩, .bool false]); have HY2 := Lib.hid (box_off HU2.out (show w.heap.size + 2 ≠ w.heap.size + 1 by omega) #[.string B, .int .i64 ((s2).p : Nat), .int .i64 ((s2).e : Nat), .int .i64 ((s2).o : Nat), .int .i64 (q2 : Nat), .string ⟨#[]⟩, .bool false]); have HC2 := Lib.hid (below_putRow HD2.out (show w.heap.size ≤ w.heap.size + 1 by omega) #[.string B, .int .i64 ((s2).p : Nat), .int .i64 ((s2).e : Nat), .int .i64 ((s2).o : Nat), .int .i64 (q2 : Nat), .string ⟨#[]⟩, .bool false]); have HP0_2 := Lib.hid (box_off HV0_2.out (show w.heap.size ≠ w.heap.size + 1 by omega) #[.string B, .int .i64 ((s2).p : Nat), .int .i64 ((s2).e : Nat), .int .i64 ((s2).o : Nat), .int .i64 (q2 : Nat), .string ⟨#[]⟩, .bool false]); clear HR2 HU2 HD2 HV0_2; generalize w2.setRow (w.heap.size + 1) #[.string B, .int .i64 ((s2).p : Nat), .int .i64 ((s2).e : Nat), .int .i64 ((s2).o : Nat), .int .i64 (q2 : Nat), .string ⟨#[]⟩, .bool false] = u2 at *; obtain ⟨d0, d1, d2, d3, d4, d5, d6⟩ := stcell (s := s2) HI2.out; have xo := HY2.out.cell 1; simp only [List.getElem?_toArray, List.getElem?_cons_zero, List.getElem?_cons_succ] at xo; have xf := HY2.out.frozen 1; have HS2 := Lib.hid (HI2.out.far (p := ⟨w.heap.size + 2, 1, none⟩) (show w.heap.size + 1 ≠ w.heap.size + 2 by omega) (.int .i64 (q2 : Nat))); have HX2 : Hid (Box (u2.setCell ⟨w.heap.size + 2, 1, none⟩ (.int .i64 (q2 : Nat))) (w.heap.size + 2) 51 #[.int .i64 (q1 : Nat), .int .i64 (q2 : Nat), .int .i64 0, .string ⟨#[]⟩, .int .i64 0, .int .i64 0, .bool false, .int .i64 0, .bool false, .string ⟨#[]⟩, .int .i64 0, .slice none 0 0]) := Lib.hid (HY2.out.put 1 (.int .i64 (q2 : Nat))); have HB2 := Lib.hid (HC2.out.setCell (p := ⟨w.heap.size + 2, 1, none⟩) (show w.heap.size ≤ w.heap.size + 2 by omega) (.int .i64 (q2 : Nat))); have HO0_2 := Lib.hid (HP0_2.out.far (p := ⟨w.heap.size + 2, 1, none⟩) (show w.heap.size ≠ w.heap.size + 2 by omega) (.int .i64 (q2 : Nat))); obtain ⟨e0, e1, e2, e3, e4, e5, e6⟩ := stcell (s := s2) HS2.out)
  clear d0 d1 d2 d3 d4 d5 d6 xo xf e0 e1 e2 e3 e4 e5 e6 HI2 HY2 HC2 HP0_2
  generalize u2.setCell ⟨w.heap.size + 2, 1, none⟩ (.int .i64 (q2 : Nat)) = V2 at *
  refine (HT3.out _).mono ?_
  rintro e w3 ⟨rfl, hb⟩
  have HR3 := Lib.hid (HS2.out.below hb HS2.out.lt)
  have HU3 := Lib.hid (HX2.out.below hb HX2.out.lt)
  have HD3 := Lib.hid (HB2.out.trans (hb.mono HB2.out.size))
  have HV0_3 := Lib.hid (HO0_2.out.below hb HO0_2.out.lt)
  clear hb HS2 HX2 HB2 HO0_2 HT3
  go_upto_region 11 with (refine wpList_store_row rfl 85 (.tmp 5) (.tmp 27) rfl (w.heap.size + 1) 85 _ #[.string B, .int .i64 ((s3).p : Nat), .int .i64 ((s3).e : Nat), .int .i64 ((s3).o : Nat), .int .i64 (q3 : Nat), .string ⟨#[]⟩, .bool false] rfl rfl HR3.out (size_st _ _ _ _ _ _ _) rfl (by simp [Value.oneCell']) ?_; have HI3 := Lib.hid (box_set HR3.out #[.string B, .int .i64 ((s3).p : Nat), .int .i64 ((s3).e : Nat), .int .i64 ((s3).o : Nat), .int .i64 (q3 : Nat), .string ⟨#[]⟩, .bool false]); have HY3 := Lib.hid (box_off HU3.out (show w.heap.size + 2 ≠ w.heap.size + 1 by omega) #[.string B, .int .i64 ((s3).p : Nat), .int .i64 ((s3).e : Nat), .int .i64 ((s3).o : Nat), .int .i64 (q3 : Nat), .string ⟨#[]⟩, .bool false]); have HC3 := Lib.hid (below_putRow HD3.out (show w.heap.size ≤ w.heap.size + 1 by omega) #[.string B, .int .i64 ((s3).p : Nat), .int .i64 ((s3).e : Nat), .int .i64 ((s3).o : Nat), .int .i64 (q3 : Nat), .string ⟨#[]⟩, .bool false]); have HP0_3 := Lib.hid (box_off HV0_3.out (show w.heap.size ≠ w.heap.size + 1 by omega) #[.string B, .int .i64 ((s3).p : Nat), .int .i64 ((s3).e : Nat), .int .i64 ((s3).o : Nat), .int .i64 (q3 : Nat), .string ⟨#[]⟩, .bool false]); clear HR3 HU3 HD3 HV0_3; generalize w3.setRow (w.heap.size + 1) #[.string B, .int .i64 ((s3).p : Nat), .int .i64 ((s3).e : Nat), .int .i64 ((s3).o : Nat), .int .i64 (q3 : Nat), .string ⟨#[]⟩, .bool false] = u3 at *; obtain ⟨d0, d1, d2, d3, d4, d5, d6⟩ := stcell (s := s3) HI3.out; have xo := HY3.out.cell 2; simp only [List.getElem?_toArray, List.getElem?_cons_zero, List.getElem?_cons_succ] at xo; have xf := HY3.out.frozen 2; have HS3 := Lib.hid (HI3.out.far (p := ⟨w.heap.size + 2, 2, none⟩) (show w.heap.size + 1 ≠ w.heap.size + 2 by omega) (.int .i64 (q3 : Nat))); have HX3 : Hid (Box (u3.setCell ⟨w.heap.size + 2, 2, none⟩ (.int .i64 (q3 : Nat))) (w.heap.size + 2) 51 #[.int .i64 (q1 : Nat), .int .i64 (q2 : Nat), .int .i64 (q3 : Nat), .string ⟨#[]⟩, .int .i64 0, .int .i64 0, .bool false, .int .i64 0, .bool false, .string ⟨#[]⟩, .int .i64 0, .slice none 0 0]) := Lib.hid (HY3.out.put 2 (.int .i64 (q3 : Nat))); have HB3 := Lib.hid (HC3.out.setCell (p := ⟨w.heap.size + 2, 2, none⟩) (show w.heap.size ≤ w.heap.size + 2 by omega) (.int .i64 (q3 : Nat))); have HO0_3 := Lib.hid (HP0_3.out.far (p := ⟨w.heap.size + 2, 2, none⟩) (show w.heap.size ≠ w.heap.size + 2 by omega) (.int .i64 (q3 : Nat))); obtain ⟨e0, e1, e2, e3, e4, e5, e6⟩ := stcell (s := s3) HS3.out)
  clear d0 d1 d2 d3 d4 d5 d6 xo xf e0 e1 e2 e3 e4 e5 e6 HI3 HY3 HC3 HP0_3
  generalize u3.setCell ⟨w.heap.size + 2, 2, none⟩ (.int .i64 (q3 : Nat)) = V3 at *
  by_cases hkq : q1 = 0
  · as_aux_lemma =>
      obtain ⟨dn, hdn⟩ : ∃ d, d = txtQ B.data.toList s3 := ⟨_, rfl⟩
      obtain ⟨dl, hdl⟩ : ∃ d : Int, d = (numQ B.data.toList (txtS B.data.toList s3) : Nat) := ⟨_, rfl⟩
      obtain ⟨ss, hss⟩ : ∃ d, d = defSs B.data.toList s3 := ⟨_, rfl⟩
      obtain ⟨s4, hs4⟩ : ∃ d, d = defS B.data.toList s3 := ⟨_, rfl⟩
      have hok4 : Ok B s4 := by rw [hs4]; unfold defS defC; exact Ok.steps _ Hok3.out.txt.num.cnt
      obtain ⟨v, hv⟩ : ∃ v : Ev, v = ⟨q1, q2, q3, tx0, rp0, dn, dl, ss⟩ := ⟨_, rfl⟩
      obtain ⟨T, hT⟩ : ∃ T, T = endS B.data.toList s4 := ⟨_, rfl⟩
      have hev : evV B.data.toList = v := by
        rw [hv, hdn, hdl, hss]
        unfold evV
        rw [HEv.out, HN2.out, HN3.out, HK1.out, hkq]
        rfl
      have het : evE B.data.toList = T := by
        rw [hT, hs4]
        unfold evE evS
        rw [HEv.out, HK1.out, hkq]
        rfl
      have HF : Hid (∀ (A : Option Addr) (n c : Nat) (e : Ending) (w' : World), n = v.ss.length → n ≤ c → Df.Steps w' w'.heap.size A v.ss → Below w.heap.size w w' → e = .returned (takenV T (goodE v) (.agg #[.int .i64 0, .int .i64 0, .int .i64 0, .string ⟨#[]⟩, .int .i64 0, .int .i64 0, .bool false, .int .i64 0, .bool false, .string ⟨#[]⟩, .int .i64 0, .slice none 0 0]) (.agg #[.int .i64 v.k, .int .i64 v.now, .int .i64 v.sg, .string v.nm, .int .i64 v.r.sg, .int .i64 v.r.sp, .bool v.r.un, .int .i64 v.r.tr, .bool v.r.good, .string v.dn, .int .i64 v.dl, .slice A n c])) → EvTo w (evA B.data.toList) e w') := Lib.hid fun A n c e w' h1 h2 h3 h4 h5 => evTo_of (by rw [HK1.out]; omega) het hev h1 h2 h3 h4 h5
      have HMo : Hid (Mod v.dn v.ss ∧ v.nm.size ≤ 1000000) := Lib.hid (by
        have hf := fits_taken B.data.toList
        rw [hev] at hf
        have hl : v.ss.length ≤ 32 := by
          rw [← hev]
          unfold evV
          dsimp only
          split
          · unfold defSs; rw [stepsQ_len]; exact cntQ_le _
          · exact Nat.zero_le _
        exact ⟨⟨by have := hf.2.1; omega, by omega, fun x hx => by have := hf.2.2 x hx; omega⟩, by have := hf.1; omega⟩)
      have HVv := Lib.hid hv
      have HTe : Hid (∀ n S y W, Calls Try.prog 36 #[.agg #[.string B, .int .i64 ((s4).p : Nat), .int .i64 ((s4).e : Nat), .int .i64 ((s4).o : Nat), .int .i64 n, .string S, .bool y]] W fun e w2 => e = .returned (.agg #[.string B, .int .i64 ((T).p : Nat), .int .i64 ((T).e : Nat), .int .i64 ((T).o : Nat), .int .i64 n, .string S, .bool y]) ∧ Below W.heap.size W w2) := Lib.hid fun n S y W => by rw [hT]; exact endR_s B s4 n S y W hok4
      have HDf : Hid (∀ W, Calls Try.prog 35 #[.agg #[.string B, .int .i64 ((s3).p : Nat), .int .i64 ((s3).e : Nat), .int .i64 ((s3).o : Nat), .int .i64 (q3 : Nat), .string ⟨#[]⟩, .bool false]] W fun e w2 => ∃ m S y A n c, e = .returned (.tuple #[.agg #[.string B, .int .i64 ((s4).p : Nat), .int .i64 ((s4).e : Nat), .int .i64 ((s4).o : Nat), .int .i64 m, .string S, .bool y], .agg #[.string dn, .int .i64 dl, .slice A n c]]) ∧ Below W.heap.size W w2 ∧ w2.ownsRow W.heap.size 67 12 (.slice A n c) n (cellsS ss)) := Lib.hid fun W => by
        refine (takeDef_s B s3 _ _ _ W Hok3.out).mono ?_
        rintro e w2 ⟨n1, S1, y1, A, c, rfl, h1, h2⟩
        rw [hdn, hdl, hs4, hss]
        exact ⟨n1, S1, y1, A, _, c, rfl, h1, h2⟩
      clear hv hT hev het hs4 hdn hdl hss hok4
      have k0 : (((q1 : Nat) : Int) == 0) = true := beq_iff_eq.2 (by omega)
      have HKq := Lib.hid hkq
      clear hkq
      obtain ⟨e0, e1, e2, e3, e4, e5, e6⟩ := stcell (s := s3) HS3.out
      have m0 := HX3.out.cell 0
      simp only [List.getElem?_toArray, List.getElem?_cons_zero] at m0
      go_wp2_with fail
      refine (HDf.out _).mono ?_
      rintro e w4 ⟨m, S, y, A, n, c, rfl, hb, ho⟩
      clear e0 e1 e2 e3 e4 e5 e6 m0
      have hbw := HB3.out.trans (hb.mono HB3.out.size)
      have hz4 : w.heap.size + 2 < w4.heap.size := by have := HX3.out.lt; have := hb.size; omega
      have HSa := Lib.hid (((HS3.out.below hb HS3.out.lt).alloc (.cells #[.string B, .int .i64 ((s4).p : Nat), .int .i64 ((s4).e : Nat), .int .i64 ((s4).o : Nat), .int .i64 m, .string S, .bool y] 85)).alloc (.cells #[.string dn, .int .i64 dl, .slice A n c] 24))
      have HXa := Lib.hid (((HX3.out.below hb HX3.out.lt).alloc (.cells #[.string B, .int .i64 ((s4).p : Nat), .int .i64 ((s4).e : Nat), .int .i64 ((s4).o : Nat), .int .i64 m, .string S, .bool y] 85)).alloc (.cells #[.string dn, .int .i64 dl, .slice A n c] 24))
      have HOa := Lib.hid (((HO0_3.out.below hb HO0_3.out.lt).alloc (.cells #[.string B, .int .i64 ((s4).p : Nat), .int .i64 ((s4).e : Nat), .int .i64 ((s4).o : Nat), .int .i64 m, .string S, .bool y] 85)).alloc (.cells #[.string dn, .int .i64 dl, .slice A n c] 24))
      have HBa := Lib.hid ((hbw.alloc hbw.size (.cells #[.string B, .int .i64 ((s4).p : Nat), .int .i64 ((s4).e : Nat), .int .i64 ((s4).o : Nat), .int .i64 m, .string S, .bool y] 85)).alloc (by have := hbw.size; simp; omega) (.cells #[.string dn, .int .i64 dl, .slice A n c] 24))
      have H7 := Lib.hid ((Box.new w4 85 #[.string B, .int .i64 ((s4).p : Nat), .int .i64 ((s4).e : Nat), .int .i64 ((s4).o : Nat), .int .i64 m, .string S, .bool y]).alloc (.cells #[.string dn, .int .i64 dl, .slice A n c] 24))
      have H8 := Lib.hid (box_new2 w4 (.cells #[.string B, .int .i64 ((s4).p : Nat), .int .i64 ((s4).e : Nat), .int .i64 ((s4).o : Nat), .int .i64 m, .string S, .bool y] 85) 24 #[.string dn, .int .i64 dl, .slice A n c])
      have HRa := Lib.hid (((own_lower ho HB3.out.size).alloc (.cells #[.string B, .int .i64 ((s4).p : Nat), .int .i64 ((s4).e : Nat), .int .i64 ((s4).o : Nat), .int .i64 m, .string S, .bool y] 85)).alloc (.cells #[.string dn, .int .i64 dl, .slice A n c] 24))
      clear hb hbw ho HS3 HX3 HO0_3 HB3 HDf
      go_upto_region 13 with fail
      generalize (w4.alloc (.cells #[.string B, .int .i64 ((s4).p : Nat), .int .i64 ((s4).e : Nat), .int .i64 ((s4).o : Nat), .int .i64 m, .string S, .bool y] 85)).alloc (.cells #[.string dn, .int .i64 dl, .slice A n c] 24) = Va at *
      obtain ⟨e0, e1, e2, e3, e4, e5, e6⟩ := stcell (s := s4) H7.out
      have HSb := Lib.hid (box_set HSa.out #[.string B, .int .i64 ((s4).p : Nat), .int .i64 ((s4).e : Nat), .int .i64 ((s4).o : Nat), .int .i64 m, .string S, .bool y])
      have HXb := Lib.hid (box_off HXa.out (show w.heap.size + 2 ≠ w.heap.size + 1 by omega) #[.string B, .int .i64 ((s4).p : Nat), .int .i64 ((s4).e : Nat), .int .i64 ((s4).o : Nat), .int .i64 m, .string S, .bool y])
      have HOb := Lib.hid (box_off HOa.out (show w.heap.size ≠ w.heap.size + 1 by omega) #[.string B, .int .i64 ((s4).p : Nat), .int .i64 ((s4).e : Nat), .int .i64 ((s4).o : Nat), .int .i64 m, .string S, .bool y])
      have H8b := Lib.hid (box_off H8.out (show w4.heap.size + 1 ≠ w.heap.size + 1 by omega) #[.string B, .int .i64 ((s4).p : Nat), .int .i64 ((s4).e : Nat), .int .i64 ((s4).o : Nat), .int .i64 m, .string S, .bool y])
      have HBb := Lib.hid (below_putRow HBa.out (show w.heap.size ≤ w.heap.size + 1 by omega) #[.string B, .int .i64 ((s4).p : Nat), .int .i64 ((s4).e : Nat), .int .i64 ((s4).o : Nat), .int .i64 m, .string S, .bool y])
      have HRb := Lib.hid (HRa.out.kept (setRow_grown Va (w.heap.size + 1) #[.string B, .int .i64 ((s4).p : Nat), .int .i64 ((s4).e : Nat), .int .i64 ((s4).o : Nat), .int .i64 m, .string S, .bool y]) (.inr (own_far HRa.out HSa.out (by decide))))
      go_upto_region 14 with (refine wpList_store_row rfl 85 (.tmp 5) (.tmp 39) rfl (w.heap.size + 1) 85 _ #[.string B, .int .i64 ((s4).p : Nat), .int .i64 ((s4).e : Nat), .int .i64 ((s4).o : Nat), .int .i64 m, .string S, .bool y] rfl rfl HSa.out (size_st _ _ _ _ _ _ _) rfl (by simp [Value.oneCell']) ?_)
      clear e0 e1 e2 e3 e4 e5 e6 HSa HXa HOa H7 H8 HBa HRa
      generalize Va.setRow (w.heap.size + 1) #[.string B, .int .i64 ((s4).p : Nat), .int .i64 ((s4).e : Nat), .int .i64 ((s4).o : Nat), .int .i64 m, .string S, .bool y] = Vb at *
      have p0 := H8b.out.cell 0
      have p1 := H8b.out.cell 1
      have p2 := H8b.out.cell 2
      simp only [List.getElem?_toArray, List.getElem?_cons_zero, List.getElem?_cons_succ] at p0 p1 p2
      have HSc := Lib.hid (box_off HSb.out (show w.heap.size + 1 ≠ w.heap.size + 2 by omega) #[.int .i64 (q1 : Nat), .int .i64 (q2 : Nat), .int .i64 (q3 : Nat), .string ⟨#[]⟩, .int .i64 0, .int .i64 0, .bool false, .int .i64 0, .bool false, .string dn, .int .i64 dl, .slice A n c])
      have HXc := Lib.hid (box_set HXb.out #[.int .i64 (q1 : Nat), .int .i64 (q2 : Nat), .int .i64 (q3 : Nat), .string ⟨#[]⟩, .int .i64 0, .int .i64 0, .bool false, .int .i64 0, .bool false, .string dn, .int .i64 dl, .slice A n c])
      have HOc := Lib.hid (box_off HOb.out (show w.heap.size ≠ w.heap.size + 2 by omega) #[.int .i64 (q1 : Nat), .int .i64 (q2 : Nat), .int .i64 (q3 : Nat), .string ⟨#[]⟩, .int .i64 0, .int .i64 0, .bool false, .int .i64 0, .bool false, .string dn, .int .i64 dl, .slice A n c])
      have HBc := Lib.hid (below_putRow HBb.out (show w.heap.size ≤ w.heap.size + 2 by omega) #[.int .i64 (q1 : Nat), .int .i64 (q2 : Nat), .int .i64 (q3 : Nat), .string ⟨#[]⟩, .int .i64 0, .int .i64 0, .bool false, .int .i64 0, .bool false, .string dn, .int .i64 dl, .slice A n c])
      have HRc := Lib.hid (HRb.out.kept (setRow_grown Vb (w.heap.size + 2) #[.int .i64 (q1 : Nat), .int .i64 (q2 : Nat), .int .i64 (q3 : Nat), .string ⟨#[]⟩, .int .i64 0, .int .i64 0, .bool false, .int .i64 0, .bool false, .string dn, .int .i64 dl, .slice A n c]) (.inr (own_far HRb.out HXb.out (by decide))))
      have l1 : (((q1 : Nat) : Int) == 1) = false := beq_false_of_ne (by have := HKq.out; omega)
      have l3 : (((q1 : Nat) : Int) == 3) = false := beq_false_of_ne (by have := HKq.out; omega)
      go_wp2_with (refine wpList_store_part rfl 24 (.tmp 41) (.tmp 40) rfl (w.heap.size + 2) 9 51 _ #[.string dn, .int .i64 dl, .slice A n c] #[.int .i64 (q1 : Nat), .int .i64 (q2 : Nat), .int .i64 (q3 : Nat), .string ⟨#[]⟩, .int .i64 0, .int .i64 0, .bool false, .int .i64 0, .bool false, .string dn, .int .i64 dl, .slice A n c] rfl rfl HXb.out (by show (Try.prog.info? 24).map (·.size) = some 3; kernel_rfl) (Nat.le_of_ble_eq_true rfl) (by simp [Value.oneCell']) rfl ?_; generalize Vb.setRow (w.heap.size + 2) #[.int .i64 (q1 : Nat), .int .i64 (q2 : Nat), .int .i64 (q3 : Nat), .string ⟨#[]⟩, .int .i64 0, .int .i64 0, .bool false, .int .i64 0, .bool false, .string dn, .int .i64 dl, .slice A n c] = Vc at *; obtain ⟨e0, e1, e2, e3, e4, e5, e6⟩ := stcell (s := s4) HSc.out; have m0 := HXc.out.cell 0; simp only [List.getElem?_toArray, List.getElem?_cons_zero] at m0)
      have HRe : Hid (Re w Vc B s4 m S y v A n c) := Lib.hid (by rw [HVv.out]; exact ⟨HSc.out, HXc.out, HOc.out, HBc.out, HRc.out⟩)
      clear e0 e1 e2 e3 e4 e5 e6 m0 p0 p1 p2 HSb HXb HOb HBb HRb H8b HSc HXc HOc HBc HRc
      refine (HTe.out _ _ _ _).mono ?_
      rintro e wz ⟨rfl, hb⟩
      have hlen := Lib.hid HRe.out.len
      have hcap := HRe.out.cap
      have HSz := Lib.hid (HRe.out.st.below hb HRe.out.st.lt)
      have HXz := Lib.hid (box_off (HRe.out.xb.below hb HRe.out.xb.lt) (show w.heap.size + 2 ≠ w.heap.size + 1 by omega) #[.string B, .int .i64 ((T).p : Nat), .int .i64 ((T).e : Nat), .int .i64 ((T).o : Nat), .int .i64 m, .string S, .bool y])
      have HOz := Lib.hid (box_off (HRe.out.rs.below hb HRe.out.rs.lt) (show w.heap.size ≠ w.heap.size + 1 by omega) #[.string B, .int .i64 ((T).p : Nat), .int .i64 ((T).e : Nat), .int .i64 ((T).o : Nat), .int .i64 m, .string S, .bool y])
      have HSt := Lib.hid (box_set HSz.out #[.string B, .int .i64 ((T).p : Nat), .int .i64 ((T).e : Nat), .int .i64 ((T).o : Nat), .int .i64 m, .string S, .bool y])
      have HBz := Lib.hid (below_putRow (HRe.out.bel.trans (hb.mono HRe.out.bel.size)) (show w.heap.size ≤ w.heap.size + 1 by omega) #[.string B, .int .i64 ((T).p : Nat), .int .i64 ((T).e : Nat), .int .i64 ((T).o : Nat), .int .i64 m, .string S, .bool y])
      have HRz : Hid ((wz.setRow (w.heap.size + 1) #[.string B, .int .i64 ((T).p : Nat), .int .i64 ((T).e : Nat), .int .i64 ((T).o : Nat), .int .i64 m, .string S, .bool y]).ownsRow w.heap.size 67 12 (.slice A n c) n (cellsS v.ss)) := Lib.hid (by
        have h2 := HRe.out.own.kept (grown_call (World.grownBy.refl _ (some (w.heap.size + 1))) hb) (.inr (own_far HRe.out.own HRe.out.st (by decide)))
        exact h2.kept (setRow_grown wz (w.heap.size + 1) #[.string B, .int .i64 ((T).p : Nat), .int .i64 ((T).e : Nat), .int .i64 ((T).o : Nat), .int .i64 m, .string S, .bool y]) (.inr (own_far h2 HSz.out (by decide))))
      obtain ⟨gb, hgb⟩ : ∃ g, g = goodE v := ⟨_, rfl⟩
      have HGd : Hid (∀ W, EvIn W v A n c → Calls Try.prog 23 #[.agg #[.int .i64 v.k, .int .i64 v.now, .int .i64 v.sg, .string v.nm, .int .i64 v.r.sg, .int .i64 v.r.sp, .bool v.r.un, .int .i64 v.r.tr, .bool v.r.good, .string v.dn, .int .i64 v.dl, .slice A n c]] W fun e w' => e = .returned (.bool gb) ∧ Below W.heap.size W w') := Lib.hid fun W h => by rw [hgb]; exact rgoodE_any v A n c W h
      rw [← hgb] at HF
      clear hb HRe HTe hgb
      by_cases hE : T.e = 0
      · have hz : ((T.e : Int) != 0) = false := by simp [hE]
        have HE := Lib.hid hE
        clear hE
        go_wp2_with (first
          | (refine wpList_store_row rfl 85 (.tmp 5) (.tmp 84) rfl (w.heap.size + 1) 85 _ #[.string B, .int .i64 ((T).p : Nat), .int .i64 ((T).e : Nat), .int .i64 ((T).o : Nat), .int .i64 m, .string S, .bool y] rfl rfl HSz.out (size_st _ _ _ _ _ _ _) rfl (by simp [Value.oneCell']) ?_; generalize wz.setRow (w.heap.size + 1) #[.string B, .int .i64 ((T).p : Nat), .int .i64 ((T).e : Nat), .int .i64 ((T).o : Nat), .int .i64 m, .string S, .bool y] = u at *; obtain ⟨e0, e1, e2, e3, e4, e5, e6⟩ := stcell (s := T) HSt.out)
          | (refine wpList_load_row rfl 51 (.tmp 6) rfl (w.heap.size + 2) 51 #[.int .i64 v.k, .int .i64 v.now, .int .i64 v.sg, .string v.nm, .int .i64 v.r.sg, .int .i64 v.r.sp, .bool v.r.un, .int .i64 v.r.tr, .bool v.r.good, .string v.dn, .int .i64 v.dl, .slice A n c] _ rfl HXz.out Try.underlying51 rfl (by show (Try.prog.info? 51).map (·.size) = some 12; kernel_rfl) ?_))
        refine (HGd.out _ ⟨hlen.out, hcap, HMo.out.1, HMo.out.2, steps_own HRz.out⟩).mono ?_
        rintro e w9 ⟨rfl, hb⟩
        have HX9 := Lib.hid (HXz.out.below hb HXz.out.lt)
        have HO9 := Lib.hid (HOz.out.below hb HOz.out.lt)
        have HB9 := Lib.hid (HBz.out.trans (hb.mono HBz.out.size))
        have HR9 := Lib.hid (HRz.out.kept (grown_call (World.grownBy.refl u (some (w.heap.size + 1))) hb) (.inr (own_far HRz.out HSt.out (by decide))))
        clear hb HXz HOz HBz HRz HSt HSz HGd e0 e1 e2 e3 e4 e5 e6
        cases gb with
        | true =>
          go_wp2_with (first
            | (refine wpList_load_row rfl 51 (.tmp 6) rfl (w.heap.size + 2) 51 #[.int .i64 v.k, .int .i64 v.now, .int .i64 v.sg, .string v.nm, .int .i64 v.r.sg, .int .i64 v.r.sp, .bool v.r.un, .int .i64 v.r.tr, .bool v.r.good, .string v.dn, .int .i64 v.dl, .slice A n c] _ rfl HX9.out Try.underlying51 rfl (by show (Try.prog.info? 51).map (·.size) = some 12; kernel_rfl) ?_)
            | (refine wpList_store_row rfl 51 (.tmp 2) (.tmp 97) rfl (w.heap.size) 51 _ #[.int .i64 v.k, .int .i64 v.now, .int .i64 v.sg, .string v.nm, .int .i64 v.r.sg, .int .i64 v.r.sp, .bool v.r.un, .int .i64 v.r.tr, .bool v.r.good, .string v.dn, .int .i64 v.dl, .slice A n c] rfl rfl HO9.out (by show (Try.prog.info? 51).map (·.size) = some 12; kernel_rfl) rfl (by simp [Value.oneCell']) ?_))
          refine bodyPost_ret (res_ctt rfl _ _ (w.heap.size) #[.int .i64 v.k, .int .i64 v.now, .int .i64 v.sg, .string v.nm, .int .i64 v.r.sg, .int .i64 v.r.sp, .bool v.r.un, .int .i64 v.r.tr, .bool v.r.good, .string v.dn, .int .i64 v.dl, .slice A n c] Try.underlying51 (by show (Try.prog.info? 51).map (·.size) = some 12; kernel_rfl) rfl (box_set HO9.out _)) rfl (HF.out A n c _ _ hlen.out hcap ?_ ?_ (by rw [takenV_yes HE.out]; rfl))
          · exact steps_own (HR9.out.kept (setRow_grown _ w.heap.size #[.int .i64 v.k, .int .i64 v.now, .int .i64 v.sg, .string v.nm, .int .i64 v.r.sg, .int .i64 v.r.sp, .bool v.r.un, .int .i64 v.r.tr, .bool v.r.good, .string v.dn, .int .i64 v.dl, .slice A n c]) (.inr (own_far HR9.out HO9.out (by decide))))
          · exact below_putRow HB9.out (Nat.le_refl _) _
        | false =>
          go_wp2_with (refine wpList_store_row rfl 51 (.tmp 2) (.tmp 96) rfl (w.heap.size) 51 _ #[.int .i64 0, .int .i64 0, .int .i64 0, .string ⟨#[]⟩, .int .i64 0, .int .i64 0, .bool false, .int .i64 0, .bool false, .string ⟨#[]⟩, .int .i64 0, .slice none 0 0] rfl rfl HO9.out (by show (Try.prog.info? 51).map (·.size) = some 12; kernel_rfl) rfl (by simp [Value.oneCell']) ?_)
          refine bodyPost_ret (res_ctt rfl _ _ (w.heap.size) #[.int .i64 0, .int .i64 0, .int .i64 0, .string ⟨#[]⟩, .int .i64 0, .int .i64 0, .bool false, .int .i64 0, .bool false, .string ⟨#[]⟩, .int .i64 0, .slice none 0 0] Try.underlying51 (by show (Try.prog.info? 51).map (·.size) = some 12; kernel_rfl) rfl (box_set HO9.out _)) rfl (HF.out A n c _ _ hlen.out hcap ?_ ?_ (by rw [takenV_no HE.out]; rfl))
          · exact steps_own (HR9.out.kept (setRow_grown _ w.heap.size #[.int .i64 0, .int .i64 0, .int .i64 0, .string ⟨#[]⟩, .int .i64 0, .int .i64 0, .bool false, .int .i64 0, .bool false, .string ⟨#[]⟩, .int .i64 0, .slice none 0 0]) (.inr (own_far HR9.out HO9.out (by decide))))
          · exact below_putRow HB9.out (Nat.le_refl _) _
      · have hz : ((T.e : Int) != 0) = true := by simpa using hE
        have HE := Lib.hid hE
        clear hE
        go_wp2_with (refine wpList_store_row rfl 85 (.tmp 5) (.tmp 84) rfl (w.heap.size + 1) 85 _ #[.string B, .int .i64 ((T).p : Nat), .int .i64 ((T).e : Nat), .int .i64 ((T).o : Nat), .int .i64 m, .string S, .bool y] rfl rfl HSz.out (size_st _ _ _ _ _ _ _) rfl (by simp [Value.oneCell']) ?_; generalize wz.setRow (w.heap.size + 1) #[.string B, .int .i64 ((T).p : Nat), .int .i64 ((T).e : Nat), .int .i64 ((T).o : Nat), .int .i64 m, .string S, .bool y] = u at *; obtain ⟨e0, e1, e2, e3, e4, e5, e6⟩ := stcell (s := T) HSt.out)
        have z2 : ∀ v, Box v (w.heap.size + 1) 85 #[.string B, .int .i64 ((T).p : Nat), .int .i64 ((T).e : Nat), .int .i64 ((T).o : Nat), .int .i64 m, .string S, .bool y] → v.cell? ⟨w.heap.size + 1, 2, none⟩ = some (.int .i64 (T.e : Nat)) := fun v h => h.cell 2
        have z3 : ∀ v, Box v (w.heap.size + 1) 85 #[.string B, .int .i64 ((T).p : Nat), .int .i64 ((T).e : Nat), .int .i64 ((T).o : Nat), .int .i64 m, .string S, .bool y] → v.cell? ⟨w.heap.size + 1, 3, none⟩ = some (.int .i64 (T.o : Nat)) := fun v h => h.cell 3
        refine wp_region_held_drew (S := fun v => Box v (w.heap.size + 1) 85 #[.string B, .int .i64 ((T).p : Nat), .int .i64 ((T).e : Nat), .int .i64 ((T).o : Nat), .int .i64 m, .string S, .bool y]) (by kernel_rfl) (HSt.out.drewN 1) (fun hHeld => ?_)
        refine wpAnyH_take (i := 0) (oi := ⟨some 88, _, _, _, _, _⟩) (v := ?_) rfl (by kernel_rfl) (by kernel_rfl) (by kernel_rfl) (fun _ _ _ h => h) (Or.inl ⟨by rfl, ?_⟩) (by assumption) ?_
        rotate_left
        · (intro u hu; (try dsimp only at hu); go_simp; (try with_reducible rfl))
        (try simp only [Act.put, List.setIfInBounds_toArray, List.set_cons_zero, List.set_cons_succ])
        refine wpAnyH_take (i := 1) (oi := ⟨some 89, _, _, _, _, _⟩) (v := ?_) rfl (by kernel_rfl) (by kernel_rfl) (by kernel_rfl) (fun _ _ _ h => h) (Or.inl ⟨by rfl, ?_⟩) (by assumption) ?_
        rotate_left
        · (intro u hu; (try dsimp only at hu); go_simp; (try with_reducible rfl))
        (try simp only [Act.put, List.setIfInBounds_toArray, List.set_cons_zero, List.set_cons_succ])
        refine wpAnyH_take (i := 2) (oi := ⟨some 90, _, _, _, _, _⟩) (v := ?_) rfl (by kernel_rfl) (by kernel_rfl) (by kernel_rfl) (fun _ _ _ h => h) (Or.inl ⟨by rfl, ?_⟩) (by assumption) ?_
        rotate_left
        · (intro u hu; (try dsimp only at hu); go_simp; (try with_reducible rfl))
        (try simp only [Act.put, List.setIfInBounds_toArray, List.set_cons_zero, List.set_cons_succ])
        refine wpAnyH_take (i := 3) (oi := ⟨some 91, _, _, _, _, _⟩) (v := ?_) rfl (by kernel_rfl) (by kernel_rfl) (by kernel_rfl) (fun _ _ _ h => h) (Or.inl ⟨by rfl, ?_⟩) (by assumption) ?_
        rotate_left
        · (intro u hu; (try dsimp only at hu); go_simp; (try with_reducible rfl))
        (try simp only [Act.put, List.setIfInBounds_toArray, List.set_cons_zero, List.set_cons_succ])
        refine wpAnyH_take (i := 4) (oi := ⟨some 92, _, _, _, _, _⟩) (v := ?_) rfl (by kernel_rfl) (by kernel_rfl) (by kernel_rfl) (fun _ _ _ h => h) (Or.inl ⟨by rfl, ?_⟩) (by assumption) ?_
        rotate_left
        · (intro u hu; (try dsimp only at hu); go_simp; (try with_reducible rfl))
        (try simp only [Act.put, List.setIfInBounds_toArray, List.set_cons_zero, List.set_cons_succ])
        refine wpAnyH_ready (rs := [5]) (by decide +kernel) (by simp) ?_
        refine AllReadyH.cons (o := ⟨none, _, _, _, _, _⟩) rfl (fun K hK => ?_) AllReadyH.nil
        rw [if_pos (by rfl)]
        refine oper_store 51 _ _ rfl (w.heap.size) 51 _ #[.int .i64 0, .int .i64 0, .int .i64 0, .string ⟨#[]⟩, .int .i64 0, .int .i64 0, .bool false, .int .i64 0, .bool false, .string ⟨#[]⟩, .int .i64 0, .slice none 0 0] rfl rfl (HOz.out.drewN 1) (by show (Try.prog.info? 51).map (·.size) = some 12; kernel_rfl) rfl (by simp [Value.oneCell']) ?_
        have hA := Lib.hid (box_off (HSt.out.drewN 1) (show w.heap.size + 1 ≠ w.heap.size by omega) #[.int .i64 0, .int .i64 0, .int .i64 0, .string ⟨#[]⟩, .int .i64 0, .int .i64 0, .bool false, .int .i64 0, .bool false, .string ⟨#[]⟩, .int .i64 0, .slice none 0 0])
        refine hK.out _ _ ?_ (fun hHeld => ?_)
        · exact hA.out
        clear hK K
        (try simp only [Act.put])
        refine wpAnyH_take (i := 6) (oi := ⟨some 3, _, _, _, _, _⟩) (v := ?_) rfl (by kernel_rfl) (by kernel_rfl) (by kernel_rfl) (fun _ _ _ h => h) (Or.inl ⟨by rfl, ?_⟩) (by assumption) ?_
        rotate_left
        · (intro u hu; (try dsimp only at hu); go_simp; (try with_reducible rfl))
        (try simp only [Act.put, List.setIfInBounds_toArray, List.set_cons_zero, List.set_cons_succ])
        refine wpAnyH_take (i := 7) (oi := ⟨some 4, _, _, _, _, _⟩) (v := ?_) rfl (by kernel_rfl) (by kernel_rfl) (by kernel_rfl) (fun _ _ _ h => h) (Or.inl ⟨by rfl, ?_⟩) (by assumption) ?_
        rotate_left
        · (intro u hu; (try dsimp only at hu); go_simp; (try with_reducible rfl))
        (try simp only [Act.put, List.setIfInBounds_toArray, List.set_cons_zero, List.set_cons_succ])
        refine wpAnyH_done (by kernel_rfl) ?_ _
        clear z2 z3
        go_wp2_with fail
        have hu : (u.drewN 1).ownsRow w.heap.size 67 12 (.slice A n c) n (cellsS v.ss) := HRz.out
        refine bodyPost_ret (res_ctt rfl _ _ (w.heap.size) #[.int .i64 0, .int .i64 0, .int .i64 0, .string ⟨#[]⟩, .int .i64 0, .int .i64 0, .bool false, .int .i64 0, .bool false, .string ⟨#[]⟩, .int .i64 0, .slice none 0 0] Try.underlying51 (by show (Try.prog.info? 51).map (·.size) = some 12; kernel_rfl) rfl (box_set (HOz.out.drewN 1) _)) rfl (HF.out A n c _ _ hlen.out hcap ?_ ?_ (by rw [takenV_err HE.out]; rfl))
        · exact steps_own (hu.kept (setRow_grown _ w.heap.size #[.int .i64 0, .int .i64 0, .int .i64 0, .string ⟨#[]⟩, .int .i64 0, .int .i64 0, .bool false, .int .i64 0, .bool false, .string ⟨#[]⟩, .int .i64 0, .slice none 0 0]) (.inr (own_far hu (HOz.out.drewN 1) (by decide))))
        · exact below_putRow (Below.drew HBz.out) (Nat.le_refl _) _
  by_cases hk1 : q1 = 1
  · as_aux_lemma =>
      have hk0 := hkq
      clear hkq
      have hkq := hk1
      clear hk1
      obtain ⟨as1, has1⟩ : ∃ t, t = txtS B.data.toList (s3) := ⟨_, rfl⟩
      obtain ⟨aq1, haq1⟩ : ∃ q, q = txtQ B.data.toList (s3) := ⟨_, rfl⟩
      have aHT1 : Hid (∀ W, Calls Try.prog 47 #[.agg #[.string B, .int .i64 ((s3).p : Nat), .int .i64 ((s3).e : Nat), .int .i64 ((s3).o : Nat), .int .i64 (q3 : Nat), .string ⟨#[]⟩, .bool false], .int .i64 256] W fun e w2 => e = .returned (.agg #[.string B, .int .i64 ((as1).p : Nat), .int .i64 ((as1).e : Nat), .int .i64 ((as1).o : Nat), .int .i64 (q3 : Nat), .string aq1, .bool false]) ∧ Below W.heap.size W w2) := Lib.hid fun W => by rw [has1, haq1]; exact textS_s B (s3) _ _ _ W (Hok3.out)
      have aok1 : Ok B as1 := by rw [has1]; exact Ok.txt (Hok3.out)
      obtain ⟨v, hv⟩ : ∃ v : Ev, v = ⟨q1, q2, q3, aq1, rp0, tx0, 0, []⟩ := ⟨_, rfl⟩
      obtain ⟨T, hT⟩ : ∃ T, T = endS B.data.toList as1 := ⟨_, rfl⟩
      have hev : evV B.data.toList = v := by
        rw [hv, haq1]
        unfold evV
        rw [HEv.out, HN2.out, HN3.out, HK1.out, hkq]
        rfl
      have het : evE B.data.toList = T := by
        rw [hT, has1]
        unfold evE evS
        rw [HEv.out, HK1.out, hkq]
        rfl
      have HF : Hid (∀ (A : Option Addr) (n c : Nat) (e : Ending) (w' : World), n = v.ss.length → n ≤ c → Df.Steps w' w'.heap.size A v.ss → Below w.heap.size w w' → e = .returned (takenV T (goodE v) (.agg #[.int .i64 0, .int .i64 0, .int .i64 0, .string ⟨#[]⟩, .int .i64 0, .int .i64 0, .bool false, .int .i64 0, .bool false, .string ⟨#[]⟩, .int .i64 0, .slice none 0 0]) (.agg #[.int .i64 v.k, .int .i64 v.now, .int .i64 v.sg, .string v.nm, .int .i64 v.r.sg, .int .i64 v.r.sp, .bool v.r.un, .int .i64 v.r.tr, .bool v.r.good, .string v.dn, .int .i64 v.dl, .slice A n c])) → EvTo w (evA B.data.toList) e w') := Lib.hid fun A n c e w' h1 h2 h3 h4 h5 => evTo_of (by rw [HK1.out]; omega) het hev h1 h2 h3 h4 h5
      have HMo : Hid (Mod v.dn v.ss ∧ v.nm.size ≤ 1000000) := Lib.hid (by
        have hf := fits_taken B.data.toList
        rw [hev] at hf
        have hl : v.ss.length ≤ 32 := by
          rw [← hev]
          unfold evV
          dsimp only
          split
          · unfold defSs; rw [stepsQ_len]; exact cntQ_le _
          · exact Nat.zero_le _
        exact ⟨⟨by have := hf.2.1; omega, by omega, fun x hx => by have := hf.2.2 x hx; omega⟩, by have := hf.1; omega⟩)
      have HVv := Lib.hid hv
      have HTe : Hid (∀ n S y W, Calls Try.prog 36 #[.agg #[.string B, .int .i64 ((as1).p : Nat), .int .i64 ((as1).e : Nat), .int .i64 ((as1).o : Nat), .int .i64 n, .string S, .bool y]] W fun e w2 => e = .returned (.agg #[.string B, .int .i64 ((T).p : Nat), .int .i64 ((T).e : Nat), .int .i64 ((T).o : Nat), .int .i64 n, .string S, .bool y]) ∧ Below W.heap.size W w2) := Lib.hid fun n S y W => by rw [hT]; exact endR_s B as1 n S y W aok1
      clear hv hT hev het has1 haq1 aok1
      have k0 : (((q1 : Nat) : Int) == 0) = false := beq_false_of_ne (by omega)
      have k1 : (((q1 : Nat) : Int) == 1) = true := beq_iff_eq.2 (by omega)
      have HKq := Lib.hid hkq
      clear hkq
      obtain ⟨e0, e1, e2, e3, e4, e5, e6⟩ := stcell (s := s3) HS3.out
      have m0 := HX3.out.cell 0
      simp only [List.getElem?_toArray, List.getElem?_cons_zero] at m0
      have l3 : (((q1 : Nat) : Int) == 3) = false := beq_false_of_ne (by have := HKq.out; omega)
      go_wp2_with fail
      refine (aHT1.out _).mono ?_
      rintro e aw1 ⟨rfl, hb⟩
      have aHR1 := Lib.hid (HS3.out.below hb HS3.out.lt)
      have aHU1 := Lib.hid (HX3.out.below hb HX3.out.lt)
      have aHD1 := Lib.hid (HB3.out.trans (hb.mono HB3.out.size))
      have aHV0_1 := Lib.hid (HO0_3.out.below hb HO0_3.out.lt)
      clear hb HS3 HX3 HB3 HO0_3 aHT1
      clear e0 e1 e2 e3 e4 e5 e6 m0
      go_wp2_with (refine wpList_store_row rfl 85 (.tmp 5) (.tmp 46) rfl (w.heap.size + 1) 85 _ #[.string B, .int .i64 ((as1).p : Nat), .int .i64 ((as1).e : Nat), .int .i64 ((as1).o : Nat), .int .i64 (q3 : Nat), .string aq1, .bool false] rfl rfl aHR1.out (size_st _ _ _ _ _ _ _) rfl (by simp [Value.oneCell']) ?_; have aHI1 := Lib.hid (box_set aHR1.out #[.string B, .int .i64 ((as1).p : Nat), .int .i64 ((as1).e : Nat), .int .i64 ((as1).o : Nat), .int .i64 (q3 : Nat), .string aq1, .bool false]); have aHY1 := Lib.hid (box_off aHU1.out (show w.heap.size + 2 ≠ w.heap.size + 1 by omega) #[.string B, .int .i64 ((as1).p : Nat), .int .i64 ((as1).e : Nat), .int .i64 ((as1).o : Nat), .int .i64 (q3 : Nat), .string aq1, .bool false]); have aHC1 := Lib.hid (below_putRow aHD1.out (show w.heap.size ≤ w.heap.size + 1 by omega) #[.string B, .int .i64 ((as1).p : Nat), .int .i64 ((as1).e : Nat), .int .i64 ((as1).o : Nat), .int .i64 (q3 : Nat), .string aq1, .bool false]); have aHP0_1 := Lib.hid (box_off aHV0_1.out (show w.heap.size ≠ w.heap.size + 1 by omega) #[.string B, .int .i64 ((as1).p : Nat), .int .i64 ((as1).e : Nat), .int .i64 ((as1).o : Nat), .int .i64 (q3 : Nat), .string aq1, .bool false]); clear aHR1 aHU1 aHD1 aHV0_1; generalize aw1.setRow (w.heap.size + 1) #[.string B, .int .i64 ((as1).p : Nat), .int .i64 ((as1).e : Nat), .int .i64 ((as1).o : Nat), .int .i64 (q3 : Nat), .string aq1, .bool false] = au1 at *; obtain ⟨d0, d1, d2, d3, d4, d5, d6⟩ := stcell (s := as1) aHI1.out; have xo := aHY1.out.cell 3; simp only [List.getElem?_toArray, List.getElem?_cons_zero, List.getElem?_cons_succ] at xo; have xf := aHY1.out.frozen 3; have aHS1 := Lib.hid (aHI1.out.far (p := ⟨w.heap.size + 2, 3, none⟩) (show w.heap.size + 1 ≠ w.heap.size + 2 by omega) (.string (aq1))); have aHX1 : Hid (Box (au1.setCell ⟨w.heap.size + 2, 3, none⟩ (.string (aq1))) (w.heap.size + 2) 51 #[.int .i64 (q1 : Nat), .int .i64 (q2 : Nat), .int .i64 (q3 : Nat), .string (aq1), .int .i64 0, .int .i64 0, .bool false, .int .i64 0, .bool false, .string ⟨#[]⟩, .int .i64 0, .slice none 0 0]) := Lib.hid (aHY1.out.put 3 (.string (aq1))); have aHB1 := Lib.hid (aHC1.out.setCell (p := ⟨w.heap.size + 2, 3, none⟩) (show w.heap.size ≤ w.heap.size + 2 by omega) (.string (aq1))); have aHO0_1 := Lib.hid (aHP0_1.out.far (p := ⟨w.heap.size + 2, 3, none⟩) (show w.heap.size ≠ w.heap.size + 2 by omega) (.string (aq1))); obtain ⟨e0, e1, e2, e3, e4, e5, e6⟩ := stcell (s := as1) aHS1.out; have m0 := aHX1.out.cell 0; simp only [List.getElem?_toArray, List.getElem?_cons_zero] at m0)
      clear d0 d1 d2 d3 d4 d5 d6 xo xf e0 e1 e2 e3 e4 e5 e6 aHI1 aHY1 aHC1 aHP0_1
      generalize au1.setCell ⟨w.heap.size + 2, 3, none⟩ (.string (aq1)) = aV1 at *
      clear m0
      have HRe0 : Hid (Re w aV1 B as1 ((q3 : Nat)) (aq1) (false) v none 0 0) := Lib.hid (by rw [HVv.out]; exact ⟨aHS1.out, aHX1.out, aHO0_1.out, aHB1.out, World.ownsRow_nil _ _ _ _⟩)
      obtain ⟨A, hA⟩ : ∃ A : Option Addr, A = none := ⟨_, rfl⟩
      obtain ⟨n, hn⟩ : ∃ n : Nat, n = 0 := ⟨_, rfl⟩
      obtain ⟨c, hc⟩ : ∃ c : Nat, c = 0 := ⟨_, rfl⟩
      have HRe : Hid (Re w aV1 B as1 ((q3 : Nat)) (aq1) (false) v A n c) := Lib.hid (by rw [hA, hn, hc]; exact HRe0.out)
      have HTe2 := HTe
      clear hA hn hc HRe0 aHS1 aHX1 aHO0_1 aHB1 HTe
      have HTe := HTe2
      clear HTe2
      refine (HTe.out _ _ _ _).mono ?_
      rintro e wz ⟨rfl, hb⟩
      have hlen := Lib.hid HRe.out.len
      have hcap := HRe.out.cap
      have HSz := Lib.hid (HRe.out.st.below hb HRe.out.st.lt)
      have HXz := Lib.hid (box_off (HRe.out.xb.below hb HRe.out.xb.lt) (show w.heap.size + 2 ≠ w.heap.size + 1 by omega) #[.string B, .int .i64 ((T).p : Nat), .int .i64 ((T).e : Nat), .int .i64 ((T).o : Nat), .int .i64 (q3 : Nat), .string aq1, .bool false])
      have HOz := Lib.hid (box_off (HRe.out.rs.below hb HRe.out.rs.lt) (show w.heap.size ≠ w.heap.size + 1 by omega) #[.string B, .int .i64 ((T).p : Nat), .int .i64 ((T).e : Nat), .int .i64 ((T).o : Nat), .int .i64 (q3 : Nat), .string aq1, .bool false])
      have HSt := Lib.hid (box_set HSz.out #[.string B, .int .i64 ((T).p : Nat), .int .i64 ((T).e : Nat), .int .i64 ((T).o : Nat), .int .i64 (q3 : Nat), .string aq1, .bool false])
      have HBz := Lib.hid (below_putRow (HRe.out.bel.trans (hb.mono HRe.out.bel.size)) (show w.heap.size ≤ w.heap.size + 1 by omega) #[.string B, .int .i64 ((T).p : Nat), .int .i64 ((T).e : Nat), .int .i64 ((T).o : Nat), .int .i64 (q3 : Nat), .string aq1, .bool false])
      have HRz : Hid ((wz.setRow (w.heap.size + 1) #[.string B, .int .i64 ((T).p : Nat), .int .i64 ((T).e : Nat), .int .i64 ((T).o : Nat), .int .i64 (q3 : Nat), .string aq1, .bool false]).ownsRow w.heap.size 67 12 (.slice A n c) n (cellsS v.ss)) := Lib.hid (by
        have h2 := HRe.out.own.kept (grown_call (World.grownBy.refl _ (some (w.heap.size + 1))) hb) (.inr (own_far HRe.out.own HRe.out.st (by decide)))
        exact h2.kept (setRow_grown wz (w.heap.size + 1) #[.string B, .int .i64 ((T).p : Nat), .int .i64 ((T).e : Nat), .int .i64 ((T).o : Nat), .int .i64 (q3 : Nat), .string aq1, .bool false]) (.inr (own_far h2 HSz.out (by decide))))
      obtain ⟨gb, hgb⟩ : ∃ g, g = goodE v := ⟨_, rfl⟩
      have HGd : Hid (∀ W, EvIn W v A n c → Calls Try.prog 23 #[.agg #[.int .i64 v.k, .int .i64 v.now, .int .i64 v.sg, .string v.nm, .int .i64 v.r.sg, .int .i64 v.r.sp, .bool v.r.un, .int .i64 v.r.tr, .bool v.r.good, .string v.dn, .int .i64 v.dl, .slice A n c]] W fun e w' => e = .returned (.bool gb) ∧ Below W.heap.size W w') := Lib.hid fun W h => by rw [hgb]; exact rgoodE_any v A n c W h
      rw [← hgb] at HF
      clear hb HRe HTe hgb
      by_cases hE : T.e = 0
      · have hz : ((T.e : Int) != 0) = false := by simp [hE]
        have HE := Lib.hid hE
        clear hE
        go_wp2_with (first
          | (refine wpList_store_row rfl 85 (.tmp 5) (.tmp 84) rfl (w.heap.size + 1) 85 _ #[.string B, .int .i64 ((T).p : Nat), .int .i64 ((T).e : Nat), .int .i64 ((T).o : Nat), .int .i64 (q3 : Nat), .string aq1, .bool false] rfl rfl HSz.out (size_st _ _ _ _ _ _ _) rfl (by simp [Value.oneCell']) ?_; generalize wz.setRow (w.heap.size + 1) #[.string B, .int .i64 ((T).p : Nat), .int .i64 ((T).e : Nat), .int .i64 ((T).o : Nat), .int .i64 (q3 : Nat), .string aq1, .bool false] = u at *; obtain ⟨e0, e1, e2, e3, e4, e5, e6⟩ := stcell (s := T) HSt.out)
          | (refine wpList_load_row rfl 51 (.tmp 6) rfl (w.heap.size + 2) 51 #[.int .i64 v.k, .int .i64 v.now, .int .i64 v.sg, .string v.nm, .int .i64 v.r.sg, .int .i64 v.r.sp, .bool v.r.un, .int .i64 v.r.tr, .bool v.r.good, .string v.dn, .int .i64 v.dl, .slice A n c] _ rfl HXz.out Try.underlying51 rfl (by show (Try.prog.info? 51).map (·.size) = some 12; kernel_rfl) ?_))
        refine (HGd.out _ ⟨hlen.out, hcap, HMo.out.1, HMo.out.2, steps_own HRz.out⟩).mono ?_
        rintro e w9 ⟨rfl, hb⟩
        have HX9 := Lib.hid (HXz.out.below hb HXz.out.lt)
        have HO9 := Lib.hid (HOz.out.below hb HOz.out.lt)
        have HB9 := Lib.hid (HBz.out.trans (hb.mono HBz.out.size))
        have HR9 := Lib.hid (HRz.out.kept (grown_call (World.grownBy.refl u (some (w.heap.size + 1))) hb) (.inr (own_far HRz.out HSt.out (by decide))))
        clear hb HXz HOz HBz HRz HSt HSz HGd e0 e1 e2 e3 e4 e5 e6
        cases gb with
        | true =>
          go_wp2_with (first
            | (refine wpList_load_row rfl 51 (.tmp 6) rfl (w.heap.size + 2) 51 #[.int .i64 v.k, .int .i64 v.now, .int .i64 v.sg, .string v.nm, .int .i64 v.r.sg, .int .i64 v.r.sp, .bool v.r.un, .int .i64 v.r.tr, .bool v.r.good, .string v.dn, .int .i64 v.dl, .slice A n c] _ rfl HX9.out Try.underlying51 rfl (by show (Try.prog.info? 51).map (·.size) = some 12; kernel_rfl) ?_)
            | (refine wpList_store_row rfl 51 (.tmp 2) (.tmp 97) rfl (w.heap.size) 51 _ #[.int .i64 v.k, .int .i64 v.now, .int .i64 v.sg, .string v.nm, .int .i64 v.r.sg, .int .i64 v.r.sp, .bool v.r.un, .int .i64 v.r.tr, .bool v.r.good, .string v.dn, .int .i64 v.dl, .slice A n c] rfl rfl HO9.out (by show (Try.prog.info? 51).map (·.size) = some 12; kernel_rfl) rfl (by simp [Value.oneCell']) ?_))
          refine bodyPost_ret (res_ctt rfl _ _ (w.heap.size) #[.int .i64 v.k, .int .i64 v.now, .int .i64 v.sg, .string v.nm, .int .i64 v.r.sg, .int .i64 v.r.sp, .bool v.r.un, .int .i64 v.r.tr, .bool v.r.good, .string v.dn, .int .i64 v.dl, .slice A n c] Try.underlying51 (by show (Try.prog.info? 51).map (·.size) = some 12; kernel_rfl) rfl (box_set HO9.out _)) rfl (HF.out A n c _ _ hlen.out hcap ?_ ?_ (by rw [takenV_yes HE.out]; rfl))
          · exact steps_own (HR9.out.kept (setRow_grown _ w.heap.size #[.int .i64 v.k, .int .i64 v.now, .int .i64 v.sg, .string v.nm, .int .i64 v.r.sg, .int .i64 v.r.sp, .bool v.r.un, .int .i64 v.r.tr, .bool v.r.good, .string v.dn, .int .i64 v.dl, .slice A n c]) (.inr (own_far HR9.out HO9.out (by decide))))
          · exact below_putRow HB9.out (Nat.le_refl _) _
        | false =>
          go_wp2_with (refine wpList_store_row rfl 51 (.tmp 2) (.tmp 96) rfl (w.heap.size) 51 _ #[.int .i64 0, .int .i64 0, .int .i64 0, .string ⟨#[]⟩, .int .i64 0, .int .i64 0, .bool false, .int .i64 0, .bool false, .string ⟨#[]⟩, .int .i64 0, .slice none 0 0] rfl rfl HO9.out (by show (Try.prog.info? 51).map (·.size) = some 12; kernel_rfl) rfl (by simp [Value.oneCell']) ?_)
          refine bodyPost_ret (res_ctt rfl _ _ (w.heap.size) #[.int .i64 0, .int .i64 0, .int .i64 0, .string ⟨#[]⟩, .int .i64 0, .int .i64 0, .bool false, .int .i64 0, .bool false, .string ⟨#[]⟩, .int .i64 0, .slice none 0 0] Try.underlying51 (by show (Try.prog.info? 51).map (·.size) = some 12; kernel_rfl) rfl (box_set HO9.out _)) rfl (HF.out A n c _ _ hlen.out hcap ?_ ?_ (by rw [takenV_no HE.out]; rfl))
          · exact steps_own (HR9.out.kept (setRow_grown _ w.heap.size #[.int .i64 0, .int .i64 0, .int .i64 0, .string ⟨#[]⟩, .int .i64 0, .int .i64 0, .bool false, .int .i64 0, .bool false, .string ⟨#[]⟩, .int .i64 0, .slice none 0 0]) (.inr (own_far HR9.out HO9.out (by decide))))
          · exact below_putRow HB9.out (Nat.le_refl _) _
      · have hz : ((T.e : Int) != 0) = true := by simpa using hE
        have HE := Lib.hid hE
        clear hE
        go_wp2_with (refine wpList_store_row rfl 85 (.tmp 5) (.tmp 84) rfl (w.heap.size + 1) 85 _ #[.string B, .int .i64 ((T).p : Nat), .int .i64 ((T).e : Nat), .int .i64 ((T).o : Nat), .int .i64 (q3 : Nat), .string aq1, .bool false] rfl rfl HSz.out (size_st _ _ _ _ _ _ _) rfl (by simp [Value.oneCell']) ?_; generalize wz.setRow (w.heap.size + 1) #[.string B, .int .i64 ((T).p : Nat), .int .i64 ((T).e : Nat), .int .i64 ((T).o : Nat), .int .i64 (q3 : Nat), .string aq1, .bool false] = u at *; obtain ⟨e0, e1, e2, e3, e4, e5, e6⟩ := stcell (s := T) HSt.out)
        have z2 : ∀ v, Box v (w.heap.size + 1) 85 #[.string B, .int .i64 ((T).p : Nat), .int .i64 ((T).e : Nat), .int .i64 ((T).o : Nat), .int .i64 (q3 : Nat), .string aq1, .bool false] → v.cell? ⟨w.heap.size + 1, 2, none⟩ = some (.int .i64 (T.e : Nat)) := fun v h => h.cell 2
        have z3 : ∀ v, Box v (w.heap.size + 1) 85 #[.string B, .int .i64 ((T).p : Nat), .int .i64 ((T).e : Nat), .int .i64 ((T).o : Nat), .int .i64 (q3 : Nat), .string aq1, .bool false] → v.cell? ⟨w.heap.size + 1, 3, none⟩ = some (.int .i64 (T.o : Nat)) := fun v h => h.cell 3
        refine wp_region_held_drew (S := fun v => Box v (w.heap.size + 1) 85 #[.string B, .int .i64 ((T).p : Nat), .int .i64 ((T).e : Nat), .int .i64 ((T).o : Nat), .int .i64 (q3 : Nat), .string aq1, .bool false]) (by kernel_rfl) (HSt.out.drewN 1) (fun hHeld => ?_)
        refine wpAnyH_take (i := 0) (oi := ⟨some 88, _, _, _, _, _⟩) (v := ?_) rfl (by kernel_rfl) (by kernel_rfl) (by kernel_rfl) (fun _ _ _ h => h) (Or.inl ⟨by rfl, ?_⟩) (by assumption) ?_
        rotate_left
        · (intro u hu; (try dsimp only at hu); go_simp; (try with_reducible rfl))
        (try simp only [Act.put, List.setIfInBounds_toArray, List.set_cons_zero, List.set_cons_succ])
        refine wpAnyH_take (i := 1) (oi := ⟨some 89, _, _, _, _, _⟩) (v := ?_) rfl (by kernel_rfl) (by kernel_rfl) (by kernel_rfl) (fun _ _ _ h => h) (Or.inl ⟨by rfl, ?_⟩) (by assumption) ?_
        rotate_left
        · (intro u hu; (try dsimp only at hu); go_simp; (try with_reducible rfl))
        (try simp only [Act.put, List.setIfInBounds_toArray, List.set_cons_zero, List.set_cons_succ])
        refine wpAnyH_take (i := 2) (oi := ⟨some 90, _, _, _, _, _⟩) (v := ?_) rfl (by kernel_rfl) (by kernel_rfl) (by kernel_rfl) (fun _ _ _ h => h) (Or.inl ⟨by rfl, ?_⟩) (by assumption) ?_
        rotate_left
        · (intro u hu; (try dsimp only at hu); go_simp; (try with_reducible rfl))
        (try simp only [Act.put, List.setIfInBounds_toArray, List.set_cons_zero, List.set_cons_succ])
        refine wpAnyH_take (i := 3) (oi := ⟨some 91, _, _, _, _, _⟩) (v := ?_) rfl (by kernel_rfl) (by kernel_rfl) (by kernel_rfl) (fun _ _ _ h => h) (Or.inl ⟨by rfl, ?_⟩) (by assumption) ?_
        rotate_left
        · (intro u hu; (try dsimp only at hu); go_simp; (try with_reducible rfl))
        (try simp only [Act.put, List.setIfInBounds_toArray, List.set_cons_zero, List.set_cons_succ])
        refine wpAnyH_take (i := 4) (oi := ⟨some 92, _, _, _, _, _⟩) (v := ?_) rfl (by kernel_rfl) (by kernel_rfl) (by kernel_rfl) (fun _ _ _ h => h) (Or.inl ⟨by rfl, ?_⟩) (by assumption) ?_
        rotate_left
        · (intro u hu; (try dsimp only at hu); go_simp; (try with_reducible rfl))
        (try simp only [Act.put, List.setIfInBounds_toArray, List.set_cons_zero, List.set_cons_succ])
        refine wpAnyH_ready (rs := [5]) (by decide +kernel) (by simp) ?_
        refine AllReadyH.cons (o := ⟨none, _, _, _, _, _⟩) rfl (fun K hK => ?_) AllReadyH.nil
        rw [if_pos (by rfl)]
        refine oper_store 51 _ _ rfl (w.heap.size) 51 _ #[.int .i64 0, .int .i64 0, .int .i64 0, .string ⟨#[]⟩, .int .i64 0, .int .i64 0, .bool false, .int .i64 0, .bool false, .string ⟨#[]⟩, .int .i64 0, .slice none 0 0] rfl rfl (HOz.out.drewN 1) (by show (Try.prog.info? 51).map (·.size) = some 12; kernel_rfl) rfl (by simp [Value.oneCell']) ?_
        have hA := Lib.hid (box_off (HSt.out.drewN 1) (show w.heap.size + 1 ≠ w.heap.size by omega) #[.int .i64 0, .int .i64 0, .int .i64 0, .string ⟨#[]⟩, .int .i64 0, .int .i64 0, .bool false, .int .i64 0, .bool false, .string ⟨#[]⟩, .int .i64 0, .slice none 0 0])
        refine hK.out _ _ ?_ (fun hHeld => ?_)
        · exact hA.out
        clear hK K
        (try simp only [Act.put])
        refine wpAnyH_take (i := 6) (oi := ⟨some 3, _, _, _, _, _⟩) (v := ?_) rfl (by kernel_rfl) (by kernel_rfl) (by kernel_rfl) (fun _ _ _ h => h) (Or.inl ⟨by rfl, ?_⟩) (by assumption) ?_
        rotate_left
        · (intro u hu; (try dsimp only at hu); go_simp; (try with_reducible rfl))
        (try simp only [Act.put, List.setIfInBounds_toArray, List.set_cons_zero, List.set_cons_succ])
        refine wpAnyH_take (i := 7) (oi := ⟨some 4, _, _, _, _, _⟩) (v := ?_) rfl (by kernel_rfl) (by kernel_rfl) (by kernel_rfl) (fun _ _ _ h => h) (Or.inl ⟨by rfl, ?_⟩) (by assumption) ?_
        rotate_left
        · (intro u hu; (try dsimp only at hu); go_simp; (try with_reducible rfl))
        (try simp only [Act.put, List.setIfInBounds_toArray, List.set_cons_zero, List.set_cons_succ])
        refine wpAnyH_done (by kernel_rfl) ?_ _
        clear z2 z3
        go_wp2_with fail
        have hu : (u.drewN 1).ownsRow w.heap.size 67 12 (.slice A n c) n (cellsS v.ss) := HRz.out
        refine bodyPost_ret (res_ctt rfl _ _ (w.heap.size) #[.int .i64 0, .int .i64 0, .int .i64 0, .string ⟨#[]⟩, .int .i64 0, .int .i64 0, .bool false, .int .i64 0, .bool false, .string ⟨#[]⟩, .int .i64 0, .slice none 0 0] Try.underlying51 (by show (Try.prog.info? 51).map (·.size) = some 12; kernel_rfl) rfl (box_set (HOz.out.drewN 1) _)) rfl (HF.out A n c _ _ hlen.out hcap ?_ ?_ (by rw [takenV_err HE.out]; rfl))
        · exact steps_own (hu.kept (setRow_grown _ w.heap.size #[.int .i64 0, .int .i64 0, .int .i64 0, .string ⟨#[]⟩, .int .i64 0, .int .i64 0, .bool false, .int .i64 0, .bool false, .string ⟨#[]⟩, .int .i64 0, .slice none 0 0]) (.inr (own_far hu (HOz.out.drewN 1) (by decide))))
        · exact below_putRow (Below.drew HBz.out) (Nat.le_refl _) _
  by_cases hk3 : q1 = 3
  · as_aux_lemma =>
      clear hkq hk1
      have hkq := hk3
      clear hk3
      obtain ⟨bs1, hbs1⟩ : ∃ t, t = numS B.data.toList (s3) := ⟨_, rfl⟩
      obtain ⟨bq1, hbq1⟩ : ∃ q, q = numQ B.data.toList (s3) := ⟨_, rfl⟩
      have bHT1 : Hid (∀ W, Calls Try.prog 46 #[.agg #[.string B, .int .i64 ((s3).p : Nat), .int .i64 ((s3).e : Nat), .int .i64 ((s3).o : Nat), .int .i64 (q3 : Nat), .string ⟨#[]⟩, .bool false]] W fun e w2 => e = .returned (.agg #[.string B, .int .i64 ((bs1).p : Nat), .int .i64 ((bs1).e : Nat), .int .i64 ((bs1).o : Nat), .int .i64 (bq1 : Nat), .string ⟨#[]⟩, .bool false]) ∧ Below W.heap.size W w2) := Lib.hid fun W => by rw [hbs1, hbq1]; exact takeN_s B (s3) _ _ _ W (Hok3.out)
      have bok1 : Ok B bs1 := by rw [hbs1]; exact Ok.num (Hok3.out)
      obtain ⟨bs2, hbs2⟩ : ∃ t, t = numS B.data.toList (bs1) := ⟨_, rfl⟩
      obtain ⟨bq2, hbq2⟩ : ∃ q, q = numQ B.data.toList (bs1) := ⟨_, rfl⟩
      have bHT2 : Hid (∀ W, Calls Try.prog 46 #[.agg #[.string B, .int .i64 ((bs1).p : Nat), .int .i64 ((bs1).e : Nat), .int .i64 ((bs1).o : Nat), .int .i64 (bq1 : Nat), .string ⟨#[]⟩, .bool false]] W fun e w2 => e = .returned (.agg #[.string B, .int .i64 ((bs2).p : Nat), .int .i64 ((bs2).e : Nat), .int .i64 ((bs2).o : Nat), .int .i64 (bq2 : Nat), .string ⟨#[]⟩, .bool false]) ∧ Below W.heap.size W w2) := Lib.hid fun W => by rw [hbs2, hbq2]; exact takeN_s B (bs1) _ _ _ W (bok1)
      have bok2 : Ok B bs2 := by rw [hbs2]; exact Ok.num (bok1)
      obtain ⟨bs3, hbs3⟩ : ∃ t, t = flgS B.data.toList (bs2) := ⟨_, rfl⟩
      obtain ⟨bq3, hbq3⟩ : ∃ q, q = flgQ B.data.toList (bs2) := ⟨_, rfl⟩
      have bHT3 : Hid (∀ W, Calls Try.prog 48 #[.agg #[.string B, .int .i64 ((bs2).p : Nat), .int .i64 ((bs2).e : Nat), .int .i64 ((bs2).o : Nat), .int .i64 (bq2 : Nat), .string ⟨#[]⟩, .bool false]] W fun e w2 => e = .returned (.agg #[.string B, .int .i64 ((bs3).p : Nat), .int .i64 ((bs3).e : Nat), .int .i64 ((bs3).o : Nat), .int .i64 (bq2 : Nat), .string ⟨#[]⟩, .bool bq3]) ∧ Below W.heap.size W w2) := Lib.hid fun W => by rw [hbs3, hbq3]; exact flagY_s B (bs2) _ _ _ W (bok2)
      have bok3 : Ok B bs3 := by rw [hbs3]; exact Ok.flg (bok2)
      obtain ⟨bs4, hbs4⟩ : ∃ t, t = numS B.data.toList (bs3) := ⟨_, rfl⟩
      obtain ⟨bq4, hbq4⟩ : ∃ q, q = numQ B.data.toList (bs3) := ⟨_, rfl⟩
      have bHT4 : Hid (∀ W, Calls Try.prog 46 #[.agg #[.string B, .int .i64 ((bs3).p : Nat), .int .i64 ((bs3).e : Nat), .int .i64 ((bs3).o : Nat), .int .i64 (bq2 : Nat), .string ⟨#[]⟩, .bool bq3]] W fun e w2 => e = .returned (.agg #[.string B, .int .i64 ((bs4).p : Nat), .int .i64 ((bs4).e : Nat), .int .i64 ((bs4).o : Nat), .int .i64 (bq4 : Nat), .string ⟨#[]⟩, .bool bq3]) ∧ Below W.heap.size W w2) := Lib.hid fun W => by rw [hbs4, hbq4]; exact takeN_s B (bs3) _ _ _ W (bok3)
      have bok4 : Ok B bs4 := by rw [hbs4]; exact Ok.num (bok3)
      obtain ⟨bs5, hbs5⟩ : ∃ t, t = flgS B.data.toList (bs4) := ⟨_, rfl⟩
      obtain ⟨bq5, hbq5⟩ : ∃ q, q = flgQ B.data.toList (bs4) := ⟨_, rfl⟩
      have bHT5 : Hid (∀ W, Calls Try.prog 48 #[.agg #[.string B, .int .i64 ((bs4).p : Nat), .int .i64 ((bs4).e : Nat), .int .i64 ((bs4).o : Nat), .int .i64 (bq4 : Nat), .string ⟨#[]⟩, .bool bq3]] W fun e w2 => e = .returned (.agg #[.string B, .int .i64 ((bs5).p : Nat), .int .i64 ((bs5).e : Nat), .int .i64 ((bs5).o : Nat), .int .i64 (bq4 : Nat), .string ⟨#[]⟩, .bool bq5]) ∧ Below W.heap.size W w2) := Lib.hid fun W => by rw [hbs5, hbq5]; exact flagY_s B (bs4) _ _ _ W (bok4)
      have bok5 : Ok B bs5 := by rw [hbs5]; exact Ok.flg (bok4)
      have hrp : replyQ B.data.toList s3 = ⟨(bq1 : Nat), (bq2 : Nat), bq3, (bq4 : Nat), bq5⟩ ∧ replyS B.data.toList s3 = bs5 := by
        rw [hbq5, hbs5, hbs4, hbq4, hbs3, hbq3, hbs2, hbq2, hbs1, hbq1]
        exact ⟨rfl, rfl⟩
      obtain ⟨v, hv⟩ : ∃ v : Ev, v = ⟨q1, q2, q3, tx0, ⟨(bq1 : Nat), (bq2 : Nat), bq3, (bq4 : Nat), bq5⟩, tx0, 0, []⟩ := ⟨_, rfl⟩
      obtain ⟨T, hT⟩ : ∃ T, T = endS B.data.toList bs5 := ⟨_, rfl⟩
      have hev : evV B.data.toList = v := by
        rw [hv, ← hrp.1]
        unfold evV
        rw [HEv.out, HN2.out, HN3.out, HK1.out, hkq]
        rfl
      have het : evE B.data.toList = T := by
        rw [hT, ← hrp.2]
        unfold evE evS
        rw [HEv.out, HK1.out, hkq]
        rfl
      have HF : Hid (∀ (A : Option Addr) (n c : Nat) (e : Ending) (w' : World), n = v.ss.length → n ≤ c → Df.Steps w' w'.heap.size A v.ss → Below w.heap.size w w' → e = .returned (takenV T (goodE v) (.agg #[.int .i64 0, .int .i64 0, .int .i64 0, .string ⟨#[]⟩, .int .i64 0, .int .i64 0, .bool false, .int .i64 0, .bool false, .string ⟨#[]⟩, .int .i64 0, .slice none 0 0]) (.agg #[.int .i64 v.k, .int .i64 v.now, .int .i64 v.sg, .string v.nm, .int .i64 v.r.sg, .int .i64 v.r.sp, .bool v.r.un, .int .i64 v.r.tr, .bool v.r.good, .string v.dn, .int .i64 v.dl, .slice A n c])) → EvTo w (evA B.data.toList) e w') := Lib.hid fun A n c e w' h1 h2 h3 h4 h5 => evTo_of (by rw [HK1.out]; omega) het hev h1 h2 h3 h4 h5
      have HMo : Hid (Mod v.dn v.ss ∧ v.nm.size ≤ 1000000) := Lib.hid (by
        have hf := fits_taken B.data.toList
        rw [hev] at hf
        have hl : v.ss.length ≤ 32 := by
          rw [← hev]
          unfold evV
          dsimp only
          split
          · unfold defSs; rw [stepsQ_len]; exact cntQ_le _
          · exact Nat.zero_le _
        exact ⟨⟨by have := hf.2.1; omega, by omega, fun x hx => by have := hf.2.2 x hx; omega⟩, by have := hf.1; omega⟩)
      have HVv := Lib.hid hv
      have HTe : Hid (∀ n S y W, Calls Try.prog 36 #[.agg #[.string B, .int .i64 ((bs5).p : Nat), .int .i64 ((bs5).e : Nat), .int .i64 ((bs5).o : Nat), .int .i64 n, .string S, .bool y]] W fun e w2 => e = .returned (.agg #[.string B, .int .i64 ((T).p : Nat), .int .i64 ((T).e : Nat), .int .i64 ((T).o : Nat), .int .i64 n, .string S, .bool y]) ∧ Below W.heap.size W w2) := Lib.hid fun n S y W => by rw [hT]; exact endR_s B bs5 n S y W bok5
      clear hv hT hev het hrp hbs5 hbq5 bok5 hbs4 hbq4 bok4 hbs3 hbq3 bok3 hbs2 hbq2 bok2 hbs1 hbq1 bok1
      have k0 : (((q1 : Nat) : Int) == 0) = false := beq_false_of_ne (by omega)
      have k1 : (((q1 : Nat) : Int) == 1) = false := beq_false_of_ne (by omega)
      have k3 : (((q1 : Nat) : Int) == 3) = true := beq_iff_eq.2 (by omega)
      have HKq := Lib.hid hkq
      clear hkq
      obtain ⟨e0, e1, e2, e3, e4, e5, e6⟩ := stcell (s := s3) HS3.out
      have m0 := HX3.out.cell 0
      simp only [List.getElem?_toArray, List.getElem?_cons_zero] at m0
      go_wp2_with fail
      refine (bHT1.out _).mono ?_
      rintro e bw1 ⟨rfl, hb⟩
      have bHR1 := Lib.hid (HS3.out.below hb HS3.out.lt)
      have bHU1 := Lib.hid (HX3.out.below hb HX3.out.lt)
      have bHD1 := Lib.hid (HB3.out.trans (hb.mono HB3.out.size))
      have bHV0_1 := Lib.hid (HO0_3.out.below hb HO0_3.out.lt)
      clear hb HS3 HX3 HB3 HO0_3 bHT1
      clear e0 e1 e2 e3 e4 e5 e6 m0
      go_wp2_with (refine wpList_store_row rfl 85 (.tmp 5) (.tmp 54) rfl (w.heap.size + 1) 85 _ #[.string B, .int .i64 ((bs1).p : Nat), .int .i64 ((bs1).e : Nat), .int .i64 ((bs1).o : Nat), .int .i64 (bq1 : Nat), .string ⟨#[]⟩, .bool false] rfl rfl bHR1.out (size_st _ _ _ _ _ _ _) rfl (by simp [Value.oneCell']) ?_; have bHI1 := Lib.hid (box_set bHR1.out #[.string B, .int .i64 ((bs1).p : Nat), .int .i64 ((bs1).e : Nat), .int .i64 ((bs1).o : Nat), .int .i64 (bq1 : Nat), .string ⟨#[]⟩, .bool false]); have bHY1 := Lib.hid (box_off bHU1.out (show w.heap.size + 2 ≠ w.heap.size + 1 by omega) #[.string B, .int .i64 ((bs1).p : Nat), .int .i64 ((bs1).e : Nat), .int .i64 ((bs1).o : Nat), .int .i64 (bq1 : Nat), .string ⟨#[]⟩, .bool false]); have bHC1 := Lib.hid (below_putRow bHD1.out (show w.heap.size ≤ w.heap.size + 1 by omega) #[.string B, .int .i64 ((bs1).p : Nat), .int .i64 ((bs1).e : Nat), .int .i64 ((bs1).o : Nat), .int .i64 (bq1 : Nat), .string ⟨#[]⟩, .bool false]); have bHP0_1 := Lib.hid (box_off bHV0_1.out (show w.heap.size ≠ w.heap.size + 1 by omega) #[.string B, .int .i64 ((bs1).p : Nat), .int .i64 ((bs1).e : Nat), .int .i64 ((bs1).o : Nat), .int .i64 (bq1 : Nat), .string ⟨#[]⟩, .bool false]); clear bHR1 bHU1 bHD1 bHV0_1; generalize bw1.setRow (w.heap.size + 1) #[.string B, .int .i64 ((bs1).p : Nat), .int .i64 ((bs1).e : Nat), .int .i64 ((bs1).o : Nat), .int .i64 (bq1 : Nat), .string ⟨#[]⟩, .bool false] = bu1 at *; obtain ⟨d0, d1, d2, d3, d4, d5, d6⟩ := stcell (s := bs1) bHI1.out; have xo := bHY1.out.cell 4; simp only [List.getElem?_toArray, List.getElem?_cons_zero, List.getElem?_cons_succ] at xo; have xf := bHY1.out.frozen 4; have bHS1 := Lib.hid (bHI1.out.far (p := ⟨w.heap.size + 2, 4, none⟩) (show w.heap.size + 1 ≠ w.heap.size + 2 by omega) (.int .i64 (bq1 : Nat))); have bHX1 : Hid (Box (bu1.setCell ⟨w.heap.size + 2, 4, none⟩ (.int .i64 (bq1 : Nat))) (w.heap.size + 2) 51 #[.int .i64 (q1 : Nat), .int .i64 (q2 : Nat), .int .i64 (q3 : Nat), .string ⟨#[]⟩, .int .i64 (bq1 : Nat), .int .i64 0, .bool false, .int .i64 0, .bool false, .string ⟨#[]⟩, .int .i64 0, .slice none 0 0]) := Lib.hid (bHY1.out.put 4 (.int .i64 (bq1 : Nat))); have bHB1 := Lib.hid (bHC1.out.setCell (p := ⟨w.heap.size + 2, 4, none⟩) (show w.heap.size ≤ w.heap.size + 2 by omega) (.int .i64 (bq1 : Nat))); have bHO0_1 := Lib.hid (bHP0_1.out.far (p := ⟨w.heap.size + 2, 4, none⟩) (show w.heap.size ≠ w.heap.size + 2 by omega) (.int .i64 (bq1 : Nat))); obtain ⟨e0, e1, e2, e3, e4, e5, e6⟩ := stcell (s := bs1) bHS1.out)
      clear d0 d1 d2 d3 d4 d5 d6 xo xf e0 e1 e2 e3 e4 e5 e6 bHI1 bHY1 bHC1 bHP0_1
      generalize bu1.setCell ⟨w.heap.size + 2, 4, none⟩ (.int .i64 (bq1 : Nat)) = bV1 at *
      refine (bHT2.out _).mono ?_
      rintro e bw2 ⟨rfl, hb⟩
      have bHR2 := Lib.hid (bHS1.out.below hb bHS1.out.lt)
      have bHU2 := Lib.hid (bHX1.out.below hb bHX1.out.lt)
      have bHD2 := Lib.hid (bHB1.out.trans (hb.mono bHB1.out.size))
      have bHV0_2 := Lib.hid (bHO0_1.out.below hb bHO0_1.out.lt)
      clear hb bHS1 bHX1 bHB1 bHO0_1 bHT2
      go_wp2_with (refine wpList_store_row rfl 85 (.tmp 5) (.tmp 60) rfl (w.heap.size + 1) 85 _ #[.string B, .int .i64 ((bs2).p : Nat), .int .i64 ((bs2).e : Nat), .int .i64 ((bs2).o : Nat), .int .i64 (bq2 : Nat), .string ⟨#[]⟩, .bool false] rfl rfl bHR2.out (size_st _ _ _ _ _ _ _) rfl (by simp [Value.oneCell']) ?_; have bHI2 := Lib.hid (box_set bHR2.out #[.string B, .int .i64 ((bs2).p : Nat), .int .i64 ((bs2).e : Nat), .int .i64 ((bs2).o : Nat), .int .i64 (bq2 : Nat), .string ⟨#[]⟩, .bool false]); have bHY2 := Lib.hid (box_off bHU2.out (show w.heap.size + 2 ≠ w.heap.size + 1 by omega) #[.string B, .int .i64 ((bs2).p : Nat), .int .i64 ((bs2).e : Nat), .int .i64 ((bs2).o : Nat), .int .i64 (bq2 : Nat), .string ⟨#[]⟩, .bool false]); have bHC2 := Lib.hid (below_putRow bHD2.out (show w.heap.size ≤ w.heap.size + 1 by omega) #[.string B, .int .i64 ((bs2).p : Nat), .int .i64 ((bs2).e : Nat), .int .i64 ((bs2).o : Nat), .int .i64 (bq2 : Nat), .string ⟨#[]⟩, .bool false]); have bHP0_2 := Lib.hid (box_off bHV0_2.out (show w.heap.size ≠ w.heap.size + 1 by omega) #[.string B, .int .i64 ((bs2).p : Nat), .int .i64 ((bs2).e : Nat), .int .i64 ((bs2).o : Nat), .int .i64 (bq2 : Nat), .string ⟨#[]⟩, .bool false]); clear bHR2 bHU2 bHD2 bHV0_2; generalize bw2.setRow (w.heap.size + 1) #[.string B, .int .i64 ((bs2).p : Nat), .int .i64 ((bs2).e : Nat), .int .i64 ((bs2).o : Nat), .int .i64 (bq2 : Nat), .string ⟨#[]⟩, .bool false] = bu2 at *; obtain ⟨d0, d1, d2, d3, d4, d5, d6⟩ := stcell (s := bs2) bHI2.out; have xo := bHY2.out.cell 5; simp only [List.getElem?_toArray, List.getElem?_cons_zero, List.getElem?_cons_succ] at xo; have xf := bHY2.out.frozen 5; have bHS2 := Lib.hid (bHI2.out.far (p := ⟨w.heap.size + 2, 5, none⟩) (show w.heap.size + 1 ≠ w.heap.size + 2 by omega) (.int .i64 (bq2 : Nat))); have bHX2 : Hid (Box (bu2.setCell ⟨w.heap.size + 2, 5, none⟩ (.int .i64 (bq2 : Nat))) (w.heap.size + 2) 51 #[.int .i64 (q1 : Nat), .int .i64 (q2 : Nat), .int .i64 (q3 : Nat), .string ⟨#[]⟩, .int .i64 (bq1 : Nat), .int .i64 (bq2 : Nat), .bool false, .int .i64 0, .bool false, .string ⟨#[]⟩, .int .i64 0, .slice none 0 0]) := Lib.hid (bHY2.out.put 5 (.int .i64 (bq2 : Nat))); have bHB2 := Lib.hid (bHC2.out.setCell (p := ⟨w.heap.size + 2, 5, none⟩) (show w.heap.size ≤ w.heap.size + 2 by omega) (.int .i64 (bq2 : Nat))); have bHO0_2 := Lib.hid (bHP0_2.out.far (p := ⟨w.heap.size + 2, 5, none⟩) (show w.heap.size ≠ w.heap.size + 2 by omega) (.int .i64 (bq2 : Nat))); obtain ⟨e0, e1, e2, e3, e4, e5, e6⟩ := stcell (s := bs2) bHS2.out)
      clear d0 d1 d2 d3 d4 d5 d6 xo xf e0 e1 e2 e3 e4 e5 e6 bHI2 bHY2 bHC2 bHP0_2
      generalize bu2.setCell ⟨w.heap.size + 2, 5, none⟩ (.int .i64 (bq2 : Nat)) = bV2 at *
      refine (bHT3.out _).mono ?_
      rintro e bw3 ⟨rfl, hb⟩
      have bHR3 := Lib.hid (bHS2.out.below hb bHS2.out.lt)
      have bHU3 := Lib.hid (bHX2.out.below hb bHX2.out.lt)
      have bHD3 := Lib.hid (bHB2.out.trans (hb.mono bHB2.out.size))
      have bHV0_3 := Lib.hid (bHO0_2.out.below hb bHO0_2.out.lt)
      clear hb bHS2 bHX2 bHB2 bHO0_2 bHT3
      go_wp2_with (refine wpList_store_row rfl 85 (.tmp 5) (.tmp 66) rfl (w.heap.size + 1) 85 _ #[.string B, .int .i64 ((bs3).p : Nat), .int .i64 ((bs3).e : Nat), .int .i64 ((bs3).o : Nat), .int .i64 (bq2 : Nat), .string ⟨#[]⟩, .bool bq3] rfl rfl bHR3.out (size_st _ _ _ _ _ _ _) rfl (by simp [Value.oneCell']) ?_; have bHI3 := Lib.hid (box_set bHR3.out #[.string B, .int .i64 ((bs3).p : Nat), .int .i64 ((bs3).e : Nat), .int .i64 ((bs3).o : Nat), .int .i64 (bq2 : Nat), .string ⟨#[]⟩, .bool bq3]); have bHY3 := Lib.hid (box_off bHU3.out (show w.heap.size + 2 ≠ w.heap.size + 1 by omega) #[.string B, .int .i64 ((bs3).p : Nat), .int .i64 ((bs3).e : Nat), .int .i64 ((bs3).o : Nat), .int .i64 (bq2 : Nat), .string ⟨#[]⟩, .bool bq3]); have bHC3 := Lib.hid (below_putRow bHD3.out (show w.heap.size ≤ w.heap.size + 1 by omega) #[.string B, .int .i64 ((bs3).p : Nat), .int .i64 ((bs3).e : Nat), .int .i64 ((bs3).o : Nat), .int .i64 (bq2 : Nat), .string ⟨#[]⟩, .bool bq3]); have bHP0_3 := Lib.hid (box_off bHV0_3.out (show w.heap.size ≠ w.heap.size + 1 by omega) #[.string B, .int .i64 ((bs3).p : Nat), .int .i64 ((bs3).e : Nat), .int .i64 ((bs3).o : Nat), .int .i64 (bq2 : Nat), .string ⟨#[]⟩, .bool bq3]); clear bHR3 bHU3 bHD3 bHV0_3; generalize bw3.setRow (w.heap.size + 1) #[.string B, .int .i64 ((bs3).p : Nat), .int .i64 ((bs3).e : Nat), .int .i64 ((bs3).o : Nat), .int .i64 (bq2 : Nat), .string ⟨#[]⟩, .bool bq3] = bu3 at *; obtain ⟨d0, d1, d2, d3, d4, d5, d6⟩ := stcell (s := bs3) bHI3.out; have xo := bHY3.out.cell 6; simp only [List.getElem?_toArray, List.getElem?_cons_zero, List.getElem?_cons_succ] at xo; have xf := bHY3.out.frozen 6; have bHS3 := Lib.hid (bHI3.out.far (p := ⟨w.heap.size + 2, 6, none⟩) (show w.heap.size + 1 ≠ w.heap.size + 2 by omega) (.bool (bq3))); have bHX3 : Hid (Box (bu3.setCell ⟨w.heap.size + 2, 6, none⟩ (.bool (bq3))) (w.heap.size + 2) 51 #[.int .i64 (q1 : Nat), .int .i64 (q2 : Nat), .int .i64 (q3 : Nat), .string ⟨#[]⟩, .int .i64 (bq1 : Nat), .int .i64 (bq2 : Nat), .bool (bq3), .int .i64 0, .bool false, .string ⟨#[]⟩, .int .i64 0, .slice none 0 0]) := Lib.hid (bHY3.out.put 6 (.bool (bq3))); have bHB3 := Lib.hid (bHC3.out.setCell (p := ⟨w.heap.size + 2, 6, none⟩) (show w.heap.size ≤ w.heap.size + 2 by omega) (.bool (bq3))); have bHO0_3 := Lib.hid (bHP0_3.out.far (p := ⟨w.heap.size + 2, 6, none⟩) (show w.heap.size ≠ w.heap.size + 2 by omega) (.bool (bq3))); obtain ⟨e0, e1, e2, e3, e4, e5, e6⟩ := stcell (s := bs3) bHS3.out)
      clear d0 d1 d2 d3 d4 d5 d6 xo xf e0 e1 e2 e3 e4 e5 e6 bHI3 bHY3 bHC3 bHP0_3
      generalize bu3.setCell ⟨w.heap.size + 2, 6, none⟩ (.bool (bq3)) = bV3 at *
      refine (bHT4.out _).mono ?_
      rintro e bw4 ⟨rfl, hb⟩
      have bHR4 := Lib.hid (bHS3.out.below hb bHS3.out.lt)
      have bHU4 := Lib.hid (bHX3.out.below hb bHX3.out.lt)
      have bHD4 := Lib.hid (bHB3.out.trans (hb.mono bHB3.out.size))
      have bHV0_4 := Lib.hid (bHO0_3.out.below hb bHO0_3.out.lt)
      clear hb bHS3 bHX3 bHB3 bHO0_3 bHT4
      go_wp2_with (refine wpList_store_row rfl 85 (.tmp 5) (.tmp 72) rfl (w.heap.size + 1) 85 _ #[.string B, .int .i64 ((bs4).p : Nat), .int .i64 ((bs4).e : Nat), .int .i64 ((bs4).o : Nat), .int .i64 (bq4 : Nat), .string ⟨#[]⟩, .bool bq3] rfl rfl bHR4.out (size_st _ _ _ _ _ _ _) rfl (by simp [Value.oneCell']) ?_; have bHI4 := Lib.hid (box_set bHR4.out #[.string B, .int .i64 ((bs4).p : Nat), .int .i64 ((bs4).e : Nat), .int .i64 ((bs4).o : Nat), .int .i64 (bq4 : Nat), .string ⟨#[]⟩, .bool bq3]); have bHY4 := Lib.hid (box_off bHU4.out (show w.heap.size + 2 ≠ w.heap.size + 1 by omega) #[.string B, .int .i64 ((bs4).p : Nat), .int .i64 ((bs4).e : Nat), .int .i64 ((bs4).o : Nat), .int .i64 (bq4 : Nat), .string ⟨#[]⟩, .bool bq3]); have bHC4 := Lib.hid (below_putRow bHD4.out (show w.heap.size ≤ w.heap.size + 1 by omega) #[.string B, .int .i64 ((bs4).p : Nat), .int .i64 ((bs4).e : Nat), .int .i64 ((bs4).o : Nat), .int .i64 (bq4 : Nat), .string ⟨#[]⟩, .bool bq3]); have bHP0_4 := Lib.hid (box_off bHV0_4.out (show w.heap.size ≠ w.heap.size + 1 by omega) #[.string B, .int .i64 ((bs4).p : Nat), .int .i64 ((bs4).e : Nat), .int .i64 ((bs4).o : Nat), .int .i64 (bq4 : Nat), .string ⟨#[]⟩, .bool bq3]); clear bHR4 bHU4 bHD4 bHV0_4; generalize bw4.setRow (w.heap.size + 1) #[.string B, .int .i64 ((bs4).p : Nat), .int .i64 ((bs4).e : Nat), .int .i64 ((bs4).o : Nat), .int .i64 (bq4 : Nat), .string ⟨#[]⟩, .bool bq3] = bu4 at *; obtain ⟨d0, d1, d2, d3, d4, d5, d6⟩ := stcell (s := bs4) bHI4.out; have xo := bHY4.out.cell 7; simp only [List.getElem?_toArray, List.getElem?_cons_zero, List.getElem?_cons_succ] at xo; have xf := bHY4.out.frozen 7; have bHS4 := Lib.hid (bHI4.out.far (p := ⟨w.heap.size + 2, 7, none⟩) (show w.heap.size + 1 ≠ w.heap.size + 2 by omega) (.int .i64 (bq4 : Nat))); have bHX4 : Hid (Box (bu4.setCell ⟨w.heap.size + 2, 7, none⟩ (.int .i64 (bq4 : Nat))) (w.heap.size + 2) 51 #[.int .i64 (q1 : Nat), .int .i64 (q2 : Nat), .int .i64 (q3 : Nat), .string ⟨#[]⟩, .int .i64 (bq1 : Nat), .int .i64 (bq2 : Nat), .bool (bq3), .int .i64 (bq4 : Nat), .bool false, .string ⟨#[]⟩, .int .i64 0, .slice none 0 0]) := Lib.hid (bHY4.out.put 7 (.int .i64 (bq4 : Nat))); have bHB4 := Lib.hid (bHC4.out.setCell (p := ⟨w.heap.size + 2, 7, none⟩) (show w.heap.size ≤ w.heap.size + 2 by omega) (.int .i64 (bq4 : Nat))); have bHO0_4 := Lib.hid (bHP0_4.out.far (p := ⟨w.heap.size + 2, 7, none⟩) (show w.heap.size ≠ w.heap.size + 2 by omega) (.int .i64 (bq4 : Nat))); obtain ⟨e0, e1, e2, e3, e4, e5, e6⟩ := stcell (s := bs4) bHS4.out)
      clear d0 d1 d2 d3 d4 d5 d6 xo xf e0 e1 e2 e3 e4 e5 e6 bHI4 bHY4 bHC4 bHP0_4
      generalize bu4.setCell ⟨w.heap.size + 2, 7, none⟩ (.int .i64 (bq4 : Nat)) = bV4 at *
      refine (bHT5.out _).mono ?_
      rintro e bw5 ⟨rfl, hb⟩
      have bHR5 := Lib.hid (bHS4.out.below hb bHS4.out.lt)
      have bHU5 := Lib.hid (bHX4.out.below hb bHX4.out.lt)
      have bHD5 := Lib.hid (bHB4.out.trans (hb.mono bHB4.out.size))
      have bHV0_5 := Lib.hid (bHO0_4.out.below hb bHO0_4.out.lt)
      clear hb bHS4 bHX4 bHB4 bHO0_4 bHT5
      go_wp2_with (refine wpList_store_row rfl 85 (.tmp 5) (.tmp 78) rfl (w.heap.size + 1) 85 _ #[.string B, .int .i64 ((bs5).p : Nat), .int .i64 ((bs5).e : Nat), .int .i64 ((bs5).o : Nat), .int .i64 (bq4 : Nat), .string ⟨#[]⟩, .bool bq5] rfl rfl bHR5.out (size_st _ _ _ _ _ _ _) rfl (by simp [Value.oneCell']) ?_; have bHI5 := Lib.hid (box_set bHR5.out #[.string B, .int .i64 ((bs5).p : Nat), .int .i64 ((bs5).e : Nat), .int .i64 ((bs5).o : Nat), .int .i64 (bq4 : Nat), .string ⟨#[]⟩, .bool bq5]); have bHY5 := Lib.hid (box_off bHU5.out (show w.heap.size + 2 ≠ w.heap.size + 1 by omega) #[.string B, .int .i64 ((bs5).p : Nat), .int .i64 ((bs5).e : Nat), .int .i64 ((bs5).o : Nat), .int .i64 (bq4 : Nat), .string ⟨#[]⟩, .bool bq5]); have bHC5 := Lib.hid (below_putRow bHD5.out (show w.heap.size ≤ w.heap.size + 1 by omega) #[.string B, .int .i64 ((bs5).p : Nat), .int .i64 ((bs5).e : Nat), .int .i64 ((bs5).o : Nat), .int .i64 (bq4 : Nat), .string ⟨#[]⟩, .bool bq5]); have bHP0_5 := Lib.hid (box_off bHV0_5.out (show w.heap.size ≠ w.heap.size + 1 by omega) #[.string B, .int .i64 ((bs5).p : Nat), .int .i64 ((bs5).e : Nat), .int .i64 ((bs5).o : Nat), .int .i64 (bq4 : Nat), .string ⟨#[]⟩, .bool bq5]); clear bHR5 bHU5 bHD5 bHV0_5; generalize bw5.setRow (w.heap.size + 1) #[.string B, .int .i64 ((bs5).p : Nat), .int .i64 ((bs5).e : Nat), .int .i64 ((bs5).o : Nat), .int .i64 (bq4 : Nat), .string ⟨#[]⟩, .bool bq5] = bu5 at *; obtain ⟨d0, d1, d2, d3, d4, d5, d6⟩ := stcell (s := bs5) bHI5.out; have xo := bHY5.out.cell 8; simp only [List.getElem?_toArray, List.getElem?_cons_zero, List.getElem?_cons_succ] at xo; have xf := bHY5.out.frozen 8; have bHS5 := Lib.hid (bHI5.out.far (p := ⟨w.heap.size + 2, 8, none⟩) (show w.heap.size + 1 ≠ w.heap.size + 2 by omega) (.bool (bq5))); have bHX5 : Hid (Box (bu5.setCell ⟨w.heap.size + 2, 8, none⟩ (.bool (bq5))) (w.heap.size + 2) 51 #[.int .i64 (q1 : Nat), .int .i64 (q2 : Nat), .int .i64 (q3 : Nat), .string ⟨#[]⟩, .int .i64 (bq1 : Nat), .int .i64 (bq2 : Nat), .bool (bq3), .int .i64 (bq4 : Nat), .bool (bq5), .string ⟨#[]⟩, .int .i64 0, .slice none 0 0]) := Lib.hid (bHY5.out.put 8 (.bool (bq5))); have bHB5 := Lib.hid (bHC5.out.setCell (p := ⟨w.heap.size + 2, 8, none⟩) (show w.heap.size ≤ w.heap.size + 2 by omega) (.bool (bq5))); have bHO0_5 := Lib.hid (bHP0_5.out.far (p := ⟨w.heap.size + 2, 8, none⟩) (show w.heap.size ≠ w.heap.size + 2 by omega) (.bool (bq5))); obtain ⟨e0, e1, e2, e3, e4, e5, e6⟩ := stcell (s := bs5) bHS5.out)
      clear d0 d1 d2 d3 d4 d5 d6 xo xf e0 e1 e2 e3 e4 e5 e6 bHI5 bHY5 bHC5 bHP0_5
      generalize bu5.setCell ⟨w.heap.size + 2, 8, none⟩ (.bool (bq5)) = bV5 at *
      have HRe0 : Hid (Re w bV5 B bs5 ((bq4 : Nat)) (⟨#[]⟩) (bq5) v none 0 0) := Lib.hid (by rw [HVv.out]; exact ⟨bHS5.out, bHX5.out, bHO0_5.out, bHB5.out, World.ownsRow_nil _ _ _ _⟩)
      obtain ⟨A, hA⟩ : ∃ A : Option Addr, A = none := ⟨_, rfl⟩
      obtain ⟨n, hn⟩ : ∃ n : Nat, n = 0 := ⟨_, rfl⟩
      obtain ⟨c, hc⟩ : ∃ c : Nat, c = 0 := ⟨_, rfl⟩
      have HRe : Hid (Re w bV5 B bs5 ((bq4 : Nat)) (⟨#[]⟩) (bq5) v A n c) := Lib.hid (by rw [hA, hn, hc]; exact HRe0.out)
      have HTe2 := HTe
      clear hA hn hc HRe0 bHS5 bHX5 bHO0_5 bHB5 HTe
      have HTe := HTe2
      clear HTe2
      refine (HTe.out _ _ _ _).mono ?_
      rintro e wz ⟨rfl, hb⟩
      have hlen := Lib.hid HRe.out.len
      have hcap := HRe.out.cap
      have HSz := Lib.hid (HRe.out.st.below hb HRe.out.st.lt)
      have HXz := Lib.hid (box_off (HRe.out.xb.below hb HRe.out.xb.lt) (show w.heap.size + 2 ≠ w.heap.size + 1 by omega) #[.string B, .int .i64 ((T).p : Nat), .int .i64 ((T).e : Nat), .int .i64 ((T).o : Nat), .int .i64 (bq4 : Nat), .string ⟨#[]⟩, .bool bq5])
      have HOz := Lib.hid (box_off (HRe.out.rs.below hb HRe.out.rs.lt) (show w.heap.size ≠ w.heap.size + 1 by omega) #[.string B, .int .i64 ((T).p : Nat), .int .i64 ((T).e : Nat), .int .i64 ((T).o : Nat), .int .i64 (bq4 : Nat), .string ⟨#[]⟩, .bool bq5])
      have HSt := Lib.hid (box_set HSz.out #[.string B, .int .i64 ((T).p : Nat), .int .i64 ((T).e : Nat), .int .i64 ((T).o : Nat), .int .i64 (bq4 : Nat), .string ⟨#[]⟩, .bool bq5])
      have HBz := Lib.hid (below_putRow (HRe.out.bel.trans (hb.mono HRe.out.bel.size)) (show w.heap.size ≤ w.heap.size + 1 by omega) #[.string B, .int .i64 ((T).p : Nat), .int .i64 ((T).e : Nat), .int .i64 ((T).o : Nat), .int .i64 (bq4 : Nat), .string ⟨#[]⟩, .bool bq5])
      have HRz : Hid ((wz.setRow (w.heap.size + 1) #[.string B, .int .i64 ((T).p : Nat), .int .i64 ((T).e : Nat), .int .i64 ((T).o : Nat), .int .i64 (bq4 : Nat), .string ⟨#[]⟩, .bool bq5]).ownsRow w.heap.size 67 12 (.slice A n c) n (cellsS v.ss)) := Lib.hid (by
        have h2 := HRe.out.own.kept (grown_call (World.grownBy.refl _ (some (w.heap.size + 1))) hb) (.inr (own_far HRe.out.own HRe.out.st (by decide)))
        exact h2.kept (setRow_grown wz (w.heap.size + 1) #[.string B, .int .i64 ((T).p : Nat), .int .i64 ((T).e : Nat), .int .i64 ((T).o : Nat), .int .i64 (bq4 : Nat), .string ⟨#[]⟩, .bool bq5]) (.inr (own_far h2 HSz.out (by decide))))
      obtain ⟨gb, hgb⟩ : ∃ g, g = goodE v := ⟨_, rfl⟩
      have HGd : Hid (∀ W, EvIn W v A n c → Calls Try.prog 23 #[.agg #[.int .i64 v.k, .int .i64 v.now, .int .i64 v.sg, .string v.nm, .int .i64 v.r.sg, .int .i64 v.r.sp, .bool v.r.un, .int .i64 v.r.tr, .bool v.r.good, .string v.dn, .int .i64 v.dl, .slice A n c]] W fun e w' => e = .returned (.bool gb) ∧ Below W.heap.size W w') := Lib.hid fun W h => by rw [hgb]; exact rgoodE_any v A n c W h
      rw [← hgb] at HF
      clear hb HRe HTe hgb
      by_cases hE : T.e = 0
      · have hz : ((T.e : Int) != 0) = false := by simp [hE]
        have HE := Lib.hid hE
        clear hE
        go_wp2_with (first
          | (refine wpList_store_row rfl 85 (.tmp 5) (.tmp 84) rfl (w.heap.size + 1) 85 _ #[.string B, .int .i64 ((T).p : Nat), .int .i64 ((T).e : Nat), .int .i64 ((T).o : Nat), .int .i64 (bq4 : Nat), .string ⟨#[]⟩, .bool bq5] rfl rfl HSz.out (size_st _ _ _ _ _ _ _) rfl (by simp [Value.oneCell']) ?_; generalize wz.setRow (w.heap.size + 1) #[.string B, .int .i64 ((T).p : Nat), .int .i64 ((T).e : Nat), .int .i64 ((T).o : Nat), .int .i64 (bq4 : Nat), .string ⟨#[]⟩, .bool bq5] = u at *; obtain ⟨e0, e1, e2, e3, e4, e5, e6⟩ := stcell (s := T) HSt.out)
          | (refine wpList_load_row rfl 51 (.tmp 6) rfl (w.heap.size + 2) 51 #[.int .i64 v.k, .int .i64 v.now, .int .i64 v.sg, .string v.nm, .int .i64 v.r.sg, .int .i64 v.r.sp, .bool v.r.un, .int .i64 v.r.tr, .bool v.r.good, .string v.dn, .int .i64 v.dl, .slice A n c] _ rfl HXz.out Try.underlying51 rfl (by show (Try.prog.info? 51).map (·.size) = some 12; kernel_rfl) ?_))
        refine (HGd.out _ ⟨hlen.out, hcap, HMo.out.1, HMo.out.2, steps_own HRz.out⟩).mono ?_
        rintro e w9 ⟨rfl, hb⟩
        have HX9 := Lib.hid (HXz.out.below hb HXz.out.lt)
        have HO9 := Lib.hid (HOz.out.below hb HOz.out.lt)
        have HB9 := Lib.hid (HBz.out.trans (hb.mono HBz.out.size))
        have HR9 := Lib.hid (HRz.out.kept (grown_call (World.grownBy.refl u (some (w.heap.size + 1))) hb) (.inr (own_far HRz.out HSt.out (by decide))))
        clear hb HXz HOz HBz HRz HSt HSz HGd e0 e1 e2 e3 e4 e5 e6
        cases gb with
        | true =>
          go_wp2_with (first
            | (refine wpList_load_row rfl 51 (.tmp 6) rfl (w.heap.size + 2) 51 #[.int .i64 v.k, .int .i64 v.now, .int .i64 v.sg, .string v.nm, .int .i64 v.r.sg, .int .i64 v.r.sp, .bool v.r.un, .int .i64 v.r.tr, .bool v.r.good, .string v.dn, .int .i64 v.dl, .slice A n c] _ rfl HX9.out Try.underlying51 rfl (by show (Try.prog.info? 51).map (·.size) = some 12; kernel_rfl) ?_)
            | (refine wpList_store_row rfl 51 (.tmp 2) (.tmp 97) rfl (w.heap.size) 51 _ #[.int .i64 v.k, .int .i64 v.now, .int .i64 v.sg, .string v.nm, .int .i64 v.r.sg, .int .i64 v.r.sp, .bool v.r.un, .int .i64 v.r.tr, .bool v.r.good, .string v.dn, .int .i64 v.dl, .slice A n c] rfl rfl HO9.out (by show (Try.prog.info? 51).map (·.size) = some 12; kernel_rfl) rfl (by simp [Value.oneCell']) ?_))
          refine bodyPost_ret (res_ctt rfl _ _ (w.heap.size) #[.int .i64 v.k, .int .i64 v.now, .int .i64 v.sg, .string v.nm, .int .i64 v.r.sg, .int .i64 v.r.sp, .bool v.r.un, .int .i64 v.r.tr, .bool v.r.good, .string v.dn, .int .i64 v.dl, .slice A n c] Try.underlying51 (by show (Try.prog.info? 51).map (·.size) = some 12; kernel_rfl) rfl (box_set HO9.out _)) rfl (HF.out A n c _ _ hlen.out hcap ?_ ?_ (by rw [takenV_yes HE.out]; rfl))
          · exact steps_own (HR9.out.kept (setRow_grown _ w.heap.size #[.int .i64 v.k, .int .i64 v.now, .int .i64 v.sg, .string v.nm, .int .i64 v.r.sg, .int .i64 v.r.sp, .bool v.r.un, .int .i64 v.r.tr, .bool v.r.good, .string v.dn, .int .i64 v.dl, .slice A n c]) (.inr (own_far HR9.out HO9.out (by decide))))
          · exact below_putRow HB9.out (Nat.le_refl _) _
        | false =>
          go_wp2_with (refine wpList_store_row rfl 51 (.tmp 2) (.tmp 96) rfl (w.heap.size) 51 _ #[.int .i64 0, .int .i64 0, .int .i64 0, .string ⟨#[]⟩, .int .i64 0, .int .i64 0, .bool false, .int .i64 0, .bool false, .string ⟨#[]⟩, .int .i64 0, .slice none 0 0] rfl rfl HO9.out (by show (Try.prog.info? 51).map (·.size) = some 12; kernel_rfl) rfl (by simp [Value.oneCell']) ?_)
          refine bodyPost_ret (res_ctt rfl _ _ (w.heap.size) #[.int .i64 0, .int .i64 0, .int .i64 0, .string ⟨#[]⟩, .int .i64 0, .int .i64 0, .bool false, .int .i64 0, .bool false, .string ⟨#[]⟩, .int .i64 0, .slice none 0 0] Try.underlying51 (by show (Try.prog.info? 51).map (·.size) = some 12; kernel_rfl) rfl (box_set HO9.out _)) rfl (HF.out A n c _ _ hlen.out hcap ?_ ?_ (by rw [takenV_no HE.out]; rfl))
          · exact steps_own (HR9.out.kept (setRow_grown _ w.heap.size #[.int .i64 0, .int .i64 0, .int .i64 0, .string ⟨#[]⟩, .int .i64 0, .int .i64 0, .bool false, .int .i64 0, .bool false, .string ⟨#[]⟩, .int .i64 0, .slice none 0 0]) (.inr (own_far HR9.out HO9.out (by decide))))
          · exact below_putRow HB9.out (Nat.le_refl _) _
      · have hz : ((T.e : Int) != 0) = true := by simpa using hE
        have HE := Lib.hid hE
        clear hE
        go_wp2_with (refine wpList_store_row rfl 85 (.tmp 5) (.tmp 84) rfl (w.heap.size + 1) 85 _ #[.string B, .int .i64 ((T).p : Nat), .int .i64 ((T).e : Nat), .int .i64 ((T).o : Nat), .int .i64 (bq4 : Nat), .string ⟨#[]⟩, .bool bq5] rfl rfl HSz.out (size_st _ _ _ _ _ _ _) rfl (by simp [Value.oneCell']) ?_; generalize wz.setRow (w.heap.size + 1) #[.string B, .int .i64 ((T).p : Nat), .int .i64 ((T).e : Nat), .int .i64 ((T).o : Nat), .int .i64 (bq4 : Nat), .string ⟨#[]⟩, .bool bq5] = u at *; obtain ⟨e0, e1, e2, e3, e4, e5, e6⟩ := stcell (s := T) HSt.out)
        have z2 : ∀ v, Box v (w.heap.size + 1) 85 #[.string B, .int .i64 ((T).p : Nat), .int .i64 ((T).e : Nat), .int .i64 ((T).o : Nat), .int .i64 (bq4 : Nat), .string ⟨#[]⟩, .bool bq5] → v.cell? ⟨w.heap.size + 1, 2, none⟩ = some (.int .i64 (T.e : Nat)) := fun v h => h.cell 2
        have z3 : ∀ v, Box v (w.heap.size + 1) 85 #[.string B, .int .i64 ((T).p : Nat), .int .i64 ((T).e : Nat), .int .i64 ((T).o : Nat), .int .i64 (bq4 : Nat), .string ⟨#[]⟩, .bool bq5] → v.cell? ⟨w.heap.size + 1, 3, none⟩ = some (.int .i64 (T.o : Nat)) := fun v h => h.cell 3
        refine wp_region_held_drew (S := fun v => Box v (w.heap.size + 1) 85 #[.string B, .int .i64 ((T).p : Nat), .int .i64 ((T).e : Nat), .int .i64 ((T).o : Nat), .int .i64 (bq4 : Nat), .string ⟨#[]⟩, .bool bq5]) (by kernel_rfl) (HSt.out.drewN 1) (fun hHeld => ?_)
        refine wpAnyH_take (i := 0) (oi := ⟨some 88, _, _, _, _, _⟩) (v := ?_) rfl (by kernel_rfl) (by kernel_rfl) (by kernel_rfl) (fun _ _ _ h => h) (Or.inl ⟨by rfl, ?_⟩) (by assumption) ?_
        rotate_left
        · (intro u hu; (try dsimp only at hu); go_simp; (try with_reducible rfl))
        (try simp only [Act.put, List.setIfInBounds_toArray, List.set_cons_zero, List.set_cons_succ])
        refine wpAnyH_take (i := 1) (oi := ⟨some 89, _, _, _, _, _⟩) (v := ?_) rfl (by kernel_rfl) (by kernel_rfl) (by kernel_rfl) (fun _ _ _ h => h) (Or.inl ⟨by rfl, ?_⟩) (by assumption) ?_
        rotate_left
        · (intro u hu; (try dsimp only at hu); go_simp; (try with_reducible rfl))
        (try simp only [Act.put, List.setIfInBounds_toArray, List.set_cons_zero, List.set_cons_succ])
        refine wpAnyH_take (i := 2) (oi := ⟨some 90, _, _, _, _, _⟩) (v := ?_) rfl (by kernel_rfl) (by kernel_rfl) (by kernel_rfl) (fun _ _ _ h => h) (Or.inl ⟨by rfl, ?_⟩) (by assumption) ?_
        rotate_left
        · (intro u hu; (try dsimp only at hu); go_simp; (try with_reducible rfl))
        (try simp only [Act.put, List.setIfInBounds_toArray, List.set_cons_zero, List.set_cons_succ])
        refine wpAnyH_take (i := 3) (oi := ⟨some 91, _, _, _, _, _⟩) (v := ?_) rfl (by kernel_rfl) (by kernel_rfl) (by kernel_rfl) (fun _ _ _ h => h) (Or.inl ⟨by rfl, ?_⟩) (by assumption) ?_
        rotate_left
        · (intro u hu; (try dsimp only at hu); go_simp; (try with_reducible rfl))
        (try simp only [Act.put, List.setIfInBounds_toArray, List.set_cons_zero, List.set_cons_succ])
        refine wpAnyH_take (i := 4) (oi := ⟨some 92, _, _, _, _, _⟩) (v := ?_) rfl (by kernel_rfl) (by kernel_rfl) (by kernel_rfl) (fun _ _ _ h => h) (Or.inl ⟨by rfl, ?_⟩) (by assumption) ?_
        rotate_left
        · (intro u hu; (try dsimp only at hu); go_simp; (try with_reducible rfl))
        (try simp only [Act.put, List.setIfInBounds_toArray, List.set_cons_zero, List.set_cons_succ])
        refine wpAnyH_ready (rs := [5]) (by decide +kernel) (by simp) ?_
        refine AllReadyH.cons (o := ⟨none, _, _, _, _, _⟩) rfl (fun K hK => ?_) AllReadyH.nil
        rw [if_pos (by rfl)]
        refine oper_store 51 _ _ rfl (w.heap.size) 51 _ #[.int .i64 0, .int .i64 0, .int .i64 0, .string ⟨#[]⟩, .int .i64 0, .int .i64 0, .bool false, .int .i64 0, .bool false, .string ⟨#[]⟩, .int .i64 0, .slice none 0 0] rfl rfl (HOz.out.drewN 1) (by show (Try.prog.info? 51).map (·.size) = some 12; kernel_rfl) rfl (by simp [Value.oneCell']) ?_
        have hA := Lib.hid (box_off (HSt.out.drewN 1) (show w.heap.size + 1 ≠ w.heap.size by omega) #[.int .i64 0, .int .i64 0, .int .i64 0, .string ⟨#[]⟩, .int .i64 0, .int .i64 0, .bool false, .int .i64 0, .bool false, .string ⟨#[]⟩, .int .i64 0, .slice none 0 0])
        refine hK.out _ _ ?_ (fun hHeld => ?_)
        · exact hA.out
        clear hK K
        (try simp only [Act.put])
        refine wpAnyH_take (i := 6) (oi := ⟨some 3, _, _, _, _, _⟩) (v := ?_) rfl (by kernel_rfl) (by kernel_rfl) (by kernel_rfl) (fun _ _ _ h => h) (Or.inl ⟨by rfl, ?_⟩) (by assumption) ?_
        rotate_left
        · (intro u hu; (try dsimp only at hu); go_simp; (try with_reducible rfl))
        (try simp only [Act.put, List.setIfInBounds_toArray, List.set_cons_zero, List.set_cons_succ])
        refine wpAnyH_take (i := 7) (oi := ⟨some 4, _, _, _, _, _⟩) (v := ?_) rfl (by kernel_rfl) (by kernel_rfl) (by kernel_rfl) (fun _ _ _ h => h) (Or.inl ⟨by rfl, ?_⟩) (by assumption) ?_
        rotate_left
        · (intro u hu; (try dsimp only at hu); go_simp; (try with_reducible rfl))
        (try simp only [Act.put, List.setIfInBounds_toArray, List.set_cons_zero, List.set_cons_succ])
        refine wpAnyH_done (by kernel_rfl) ?_ _
        clear z2 z3
        go_wp2_with fail
        have hu : (u.drewN 1).ownsRow w.heap.size 67 12 (.slice A n c) n (cellsS v.ss) := HRz.out
        refine bodyPost_ret (res_ctt rfl _ _ (w.heap.size) #[.int .i64 0, .int .i64 0, .int .i64 0, .string ⟨#[]⟩, .int .i64 0, .int .i64 0, .bool false, .int .i64 0, .bool false, .string ⟨#[]⟩, .int .i64 0, .slice none 0 0] Try.underlying51 (by show (Try.prog.info? 51).map (·.size) = some 12; kernel_rfl) rfl (box_set (HOz.out.drewN 1) _)) rfl (HF.out A n c _ _ hlen.out hcap ?_ ?_ (by rw [takenV_err HE.out]; rfl))
        · exact steps_own (hu.kept (setRow_grown _ w.heap.size #[.int .i64 0, .int .i64 0, .int .i64 0, .string ⟨#[]⟩, .int .i64 0, .int .i64 0, .bool false, .int .i64 0, .bool false, .string ⟨#[]⟩, .int .i64 0, .slice none 0 0]) (.inr (own_far hu (HOz.out.drewN 1) (by decide))))
        · exact below_putRow (Below.drew HBz.out) (Nat.le_refl _) _
  have hkn : q1 ≠ 0 ∧ q1 ≠ 1 ∧ q1 ≠ 3 := ⟨hkq, hk1, hk3⟩
  clear hkq hk1 hk3
  have hkq := hkn
  clear hkn
  as_aux_lemma =>
    obtain ⟨v, hv⟩ : ∃ v : Ev, v = ⟨q1, q2, q3, tx0, rp0, tx0, 0, []⟩ := ⟨_, rfl⟩
    obtain ⟨T, hT⟩ : ∃ T, T = endS B.data.toList s3 := ⟨_, rfl⟩
    have hev : evV B.data.toList = v := by
      rw [hv]
      unfold evV
      rw [HEv.out, HN2.out, HN3.out, HK1.out, if_neg hkq.2.1, if_neg hkq.2.2, if_neg hkq.1, if_neg hkq.1, if_neg hkq.1]
    have het : evE B.data.toList = T := by
      rw [hT]
      unfold evE evS
      rw [HEv.out, HK1.out, if_neg hkq.1, if_neg hkq.2.1, if_neg hkq.2.2]
    have HF : Hid (∀ (A : Option Addr) (n c : Nat) (e : Ending) (w' : World), n = v.ss.length → n ≤ c → Df.Steps w' w'.heap.size A v.ss → Below w.heap.size w w' → e = .returned (takenV T (goodE v) (.agg #[.int .i64 0, .int .i64 0, .int .i64 0, .string ⟨#[]⟩, .int .i64 0, .int .i64 0, .bool false, .int .i64 0, .bool false, .string ⟨#[]⟩, .int .i64 0, .slice none 0 0]) (.agg #[.int .i64 v.k, .int .i64 v.now, .int .i64 v.sg, .string v.nm, .int .i64 v.r.sg, .int .i64 v.r.sp, .bool v.r.un, .int .i64 v.r.tr, .bool v.r.good, .string v.dn, .int .i64 v.dl, .slice A n c])) → EvTo w (evA B.data.toList) e w') := Lib.hid fun A n c e w' h1 h2 h3 h4 h5 => evTo_of (by rw [HK1.out]; omega) het hev h1 h2 h3 h4 h5
    have HMo : Hid (Mod v.dn v.ss ∧ v.nm.size ≤ 1000000) := Lib.hid (by
      have hf := fits_taken B.data.toList
      rw [hev] at hf
      have hl : v.ss.length ≤ 32 := by
        rw [← hev]
        unfold evV
        dsimp only
        split
        · unfold defSs; rw [stepsQ_len]; exact cntQ_le _
        · exact Nat.zero_le _
      exact ⟨⟨by have := hf.2.1; omega, by omega, fun x hx => by have := hf.2.2 x hx; omega⟩, by have := hf.1; omega⟩)
    have HVv := Lib.hid hv
    have HTe : Hid (∀ n S y W, Calls Try.prog 36 #[.agg #[.string B, .int .i64 ((s3).p : Nat), .int .i64 ((s3).e : Nat), .int .i64 ((s3).o : Nat), .int .i64 n, .string S, .bool y]] W fun e w2 => e = .returned (.agg #[.string B, .int .i64 ((T).p : Nat), .int .i64 ((T).e : Nat), .int .i64 ((T).o : Nat), .int .i64 n, .string S, .bool y]) ∧ Below W.heap.size W w2) := Lib.hid fun n S y W => by rw [hT]; exact endR_s B s3 n S y W Hok3.out
    clear hv hT hev het
    have k0 : (((q1 : Nat) : Int) == 0) = false := beq_false_of_ne (by omega)
    have k1 : (((q1 : Nat) : Int) == 1) = false := beq_false_of_ne (by omega)
    have k3 : (((q1 : Nat) : Int) == 3) = false := beq_false_of_ne (by omega)
    have HKq := Lib.hid hkq
    clear hkq
    obtain ⟨e0, e1, e2, e3, e4, e5, e6⟩ := stcell (s := s3) HS3.out
    have m0 := HX3.out.cell 0
    simp only [List.getElem?_toArray, List.getElem?_cons_zero] at m0
    go_wp2_with fail
    clear e0 e1 e2 e3 e4 e5 e6 m0
    have HRe0 : Hid (Re w V3 B s3 ((q3 : Nat)) (⟨#[]⟩) (false) v none 0 0) := Lib.hid (by rw [HVv.out]; exact ⟨HS3.out, HX3.out, HO0_3.out, HB3.out, World.ownsRow_nil _ _ _ _⟩)
    obtain ⟨A, hA⟩ : ∃ A : Option Addr, A = none := ⟨_, rfl⟩
    obtain ⟨n, hn⟩ : ∃ n : Nat, n = 0 := ⟨_, rfl⟩
    obtain ⟨c, hc⟩ : ∃ c : Nat, c = 0 := ⟨_, rfl⟩
    have HRe : Hid (Re w V3 B s3 ((q3 : Nat)) (⟨#[]⟩) (false) v A n c) := Lib.hid (by rw [hA, hn, hc]; exact HRe0.out)
    have HTe2 := HTe
    clear hA hn hc HRe0 HS3 HX3 HO0_3 HB3 HTe
    have HTe := HTe2
    clear HTe2
    refine (HTe.out _ _ _ _).mono ?_
    rintro e wz ⟨rfl, hb⟩
    have hlen := Lib.hid HRe.out.len
    have hcap := HRe.out.cap
    have HSz := Lib.hid (HRe.out.st.below hb HRe.out.st.lt)
    have HXz := Lib.hid (box_off (HRe.out.xb.below hb HRe.out.xb.lt) (show w.heap.size + 2 ≠ w.heap.size + 1 by omega) #[.string B, .int .i64 ((T).p : Nat), .int .i64 ((T).e : Nat), .int .i64 ((T).o : Nat), .int .i64 (q3 : Nat), .string ⟨#[]⟩, .bool false])
    have HOz := Lib.hid (box_off (HRe.out.rs.below hb HRe.out.rs.lt) (show w.heap.size ≠ w.heap.size + 1 by omega) #[.string B, .int .i64 ((T).p : Nat), .int .i64 ((T).e : Nat), .int .i64 ((T).o : Nat), .int .i64 (q3 : Nat), .string ⟨#[]⟩, .bool false])
    have HSt := Lib.hid (box_set HSz.out #[.string B, .int .i64 ((T).p : Nat), .int .i64 ((T).e : Nat), .int .i64 ((T).o : Nat), .int .i64 (q3 : Nat), .string ⟨#[]⟩, .bool false])
    have HBz := Lib.hid (below_putRow (HRe.out.bel.trans (hb.mono HRe.out.bel.size)) (show w.heap.size ≤ w.heap.size + 1 by omega) #[.string B, .int .i64 ((T).p : Nat), .int .i64 ((T).e : Nat), .int .i64 ((T).o : Nat), .int .i64 (q3 : Nat), .string ⟨#[]⟩, .bool false])
    have HRz : Hid ((wz.setRow (w.heap.size + 1) #[.string B, .int .i64 ((T).p : Nat), .int .i64 ((T).e : Nat), .int .i64 ((T).o : Nat), .int .i64 (q3 : Nat), .string ⟨#[]⟩, .bool false]).ownsRow w.heap.size 67 12 (.slice A n c) n (cellsS v.ss)) := Lib.hid (by
      have h2 := HRe.out.own.kept (grown_call (World.grownBy.refl _ (some (w.heap.size + 1))) hb) (.inr (own_far HRe.out.own HRe.out.st (by decide)))
      exact h2.kept (setRow_grown wz (w.heap.size + 1) #[.string B, .int .i64 ((T).p : Nat), .int .i64 ((T).e : Nat), .int .i64 ((T).o : Nat), .int .i64 (q3 : Nat), .string ⟨#[]⟩, .bool false]) (.inr (own_far h2 HSz.out (by decide))))
    obtain ⟨gb, hgb⟩ : ∃ g, g = goodE v := ⟨_, rfl⟩
    have HGd : Hid (∀ W, EvIn W v A n c → Calls Try.prog 23 #[.agg #[.int .i64 v.k, .int .i64 v.now, .int .i64 v.sg, .string v.nm, .int .i64 v.r.sg, .int .i64 v.r.sp, .bool v.r.un, .int .i64 v.r.tr, .bool v.r.good, .string v.dn, .int .i64 v.dl, .slice A n c]] W fun e w' => e = .returned (.bool gb) ∧ Below W.heap.size W w') := Lib.hid fun W h => by rw [hgb]; exact rgoodE_any v A n c W h
    rw [← hgb] at HF
    clear hb HRe HTe hgb
    by_cases hE : T.e = 0
    · have hz : ((T.e : Int) != 0) = false := by simp [hE]
      have HE := Lib.hid hE
      clear hE
      go_wp2_with (first
        | (refine wpList_store_row rfl 85 (.tmp 5) (.tmp 84) rfl (w.heap.size + 1) 85 _ #[.string B, .int .i64 ((T).p : Nat), .int .i64 ((T).e : Nat), .int .i64 ((T).o : Nat), .int .i64 (q3 : Nat), .string ⟨#[]⟩, .bool false] rfl rfl HSz.out (size_st _ _ _ _ _ _ _) rfl (by simp [Value.oneCell']) ?_; generalize wz.setRow (w.heap.size + 1) #[.string B, .int .i64 ((T).p : Nat), .int .i64 ((T).e : Nat), .int .i64 ((T).o : Nat), .int .i64 (q3 : Nat), .string ⟨#[]⟩, .bool false] = u at *; obtain ⟨e0, e1, e2, e3, e4, e5, e6⟩ := stcell (s := T) HSt.out)
        | (refine wpList_load_row rfl 51 (.tmp 6) rfl (w.heap.size + 2) 51 #[.int .i64 v.k, .int .i64 v.now, .int .i64 v.sg, .string v.nm, .int .i64 v.r.sg, .int .i64 v.r.sp, .bool v.r.un, .int .i64 v.r.tr, .bool v.r.good, .string v.dn, .int .i64 v.dl, .slice A n c] _ rfl HXz.out Try.underlying51 rfl (by show (Try.prog.info? 51).map (·.size) = some 12; kernel_rfl) ?_))
      refine (HGd.out _ ⟨hlen.out, hcap, HMo.out.1, HMo.out.2, steps_own HRz.out⟩).mono ?_
      rintro e w9 ⟨rfl, hb⟩
      have HX9 := Lib.hid (HXz.out.below hb HXz.out.lt)
      have HO9 := Lib.hid (HOz.out.below hb HOz.out.lt)
      have HB9 := Lib.hid (HBz.out.trans (hb.mono HBz.out.size))
      have HR9 := Lib.hid (HRz.out.kept (grown_call (World.grownBy.refl u (some (w.heap.size + 1))) hb) (.inr (own_far HRz.out HSt.out (by decide))))
      clear hb HXz HOz HBz HRz HSt HSz HGd e0 e1 e2 e3 e4 e5 e6
      cases gb with
      | true =>
        go_wp2_with (first
          | (refine wpList_load_row rfl 51 (.tmp 6) rfl (w.heap.size + 2) 51 #[.int .i64 v.k, .int .i64 v.now, .int .i64 v.sg, .string v.nm, .int .i64 v.r.sg, .int .i64 v.r.sp, .bool v.r.un, .int .i64 v.r.tr, .bool v.r.good, .string v.dn, .int .i64 v.dl, .slice A n c] _ rfl HX9.out Try.underlying51 rfl (by show (Try.prog.info? 51).map (·.size) = some 12; kernel_rfl) ?_)
          | (refine wpList_store_row rfl 51 (.tmp 2) (.tmp 97) rfl (w.heap.size) 51 _ #[.int .i64 v.k, .int .i64 v.now, .int .i64 v.sg, .string v.nm, .int .i64 v.r.sg, .int .i64 v.r.sp, .bool v.r.un, .int .i64 v.r.tr, .bool v.r.good, .string v.dn, .int .i64 v.dl, .slice A n c] rfl rfl HO9.out (by show (Try.prog.info? 51).map (·.size) = some 12; kernel_rfl) rfl (by simp [Value.oneCell']) ?_))
        refine bodyPost_ret (res_ctt rfl _ _ (w.heap.size) #[.int .i64 v.k, .int .i64 v.now, .int .i64 v.sg, .string v.nm, .int .i64 v.r.sg, .int .i64 v.r.sp, .bool v.r.un, .int .i64 v.r.tr, .bool v.r.good, .string v.dn, .int .i64 v.dl, .slice A n c] Try.underlying51 (by show (Try.prog.info? 51).map (·.size) = some 12; kernel_rfl) rfl (box_set HO9.out _)) rfl (HF.out A n c _ _ hlen.out hcap ?_ ?_ (by rw [takenV_yes HE.out]; rfl))
        · exact steps_own (HR9.out.kept (setRow_grown _ w.heap.size #[.int .i64 v.k, .int .i64 v.now, .int .i64 v.sg, .string v.nm, .int .i64 v.r.sg, .int .i64 v.r.sp, .bool v.r.un, .int .i64 v.r.tr, .bool v.r.good, .string v.dn, .int .i64 v.dl, .slice A n c]) (.inr (own_far HR9.out HO9.out (by decide))))
        · exact below_putRow HB9.out (Nat.le_refl _) _
      | false =>
        go_wp2_with (refine wpList_store_row rfl 51 (.tmp 2) (.tmp 96) rfl (w.heap.size) 51 _ #[.int .i64 0, .int .i64 0, .int .i64 0, .string ⟨#[]⟩, .int .i64 0, .int .i64 0, .bool false, .int .i64 0, .bool false, .string ⟨#[]⟩, .int .i64 0, .slice none 0 0] rfl rfl HO9.out (by show (Try.prog.info? 51).map (·.size) = some 12; kernel_rfl) rfl (by simp [Value.oneCell']) ?_)
        refine bodyPost_ret (res_ctt rfl _ _ (w.heap.size) #[.int .i64 0, .int .i64 0, .int .i64 0, .string ⟨#[]⟩, .int .i64 0, .int .i64 0, .bool false, .int .i64 0, .bool false, .string ⟨#[]⟩, .int .i64 0, .slice none 0 0] Try.underlying51 (by show (Try.prog.info? 51).map (·.size) = some 12; kernel_rfl) rfl (box_set HO9.out _)) rfl (HF.out A n c _ _ hlen.out hcap ?_ ?_ (by rw [takenV_no HE.out]; rfl))
        · exact steps_own (HR9.out.kept (setRow_grown _ w.heap.size #[.int .i64 0, .int .i64 0, .int .i64 0, .string ⟨#[]⟩, .int .i64 0, .int .i64 0, .bool false, .int .i64 0, .bool false, .string ⟨#[]⟩, .int .i64 0, .slice none 0 0]) (.inr (own_far HR9.out HO9.out (by decide))))
        · exact below_putRow HB9.out (Nat.le_refl _) _
    · have hz : ((T.e : Int) != 0) = true := by simpa using hE
      have HE := Lib.hid hE
      clear hE
      go_wp2_with (refine wpList_store_row rfl 85 (.tmp 5) (.tmp 84) rfl (w.heap.size + 1) 85 _ #[.string B, .int .i64 ((T).p : Nat), .int .i64 ((T).e : Nat), .int .i64 ((T).o : Nat), .int .i64 (q3 : Nat), .string ⟨#[]⟩, .bool false] rfl rfl HSz.out (size_st _ _ _ _ _ _ _) rfl (by simp [Value.oneCell']) ?_; generalize wz.setRow (w.heap.size + 1) #[.string B, .int .i64 ((T).p : Nat), .int .i64 ((T).e : Nat), .int .i64 ((T).o : Nat), .int .i64 (q3 : Nat), .string ⟨#[]⟩, .bool false] = u at *; obtain ⟨e0, e1, e2, e3, e4, e5, e6⟩ := stcell (s := T) HSt.out)
      have z2 : ∀ v, Box v (w.heap.size + 1) 85 #[.string B, .int .i64 ((T).p : Nat), .int .i64 ((T).e : Nat), .int .i64 ((T).o : Nat), .int .i64 (q3 : Nat), .string ⟨#[]⟩, .bool false] → v.cell? ⟨w.heap.size + 1, 2, none⟩ = some (.int .i64 (T.e : Nat)) := fun v h => h.cell 2
      have z3 : ∀ v, Box v (w.heap.size + 1) 85 #[.string B, .int .i64 ((T).p : Nat), .int .i64 ((T).e : Nat), .int .i64 ((T).o : Nat), .int .i64 (q3 : Nat), .string ⟨#[]⟩, .bool false] → v.cell? ⟨w.heap.size + 1, 3, none⟩ = some (.int .i64 (T.o : Nat)) := fun v h => h.cell 3
      refine wp_region_held_drew (S := fun v => Box v (w.heap.size + 1) 85 #[.string B, .int .i64 ((T).p : Nat), .int .i64 ((T).e : Nat), .int .i64 ((T).o : Nat), .int .i64 (q3 : Nat), .string ⟨#[]⟩, .bool false]) (by kernel_rfl) (HSt.out.drewN 1) (fun hHeld => ?_)
      refine wpAnyH_take (i := 0) (oi := ⟨some 88, _, _, _, _, _⟩) (v := ?_) rfl (by kernel_rfl) (by kernel_rfl) (by kernel_rfl) (fun _ _ _ h => h) (Or.inl ⟨by rfl, ?_⟩) (by assumption) ?_
      rotate_left
      · (intro u hu; (try dsimp only at hu); go_simp; (try with_reducible rfl))
      (try simp only [Act.put, List.setIfInBounds_toArray, List.set_cons_zero, List.set_cons_succ])
      refine wpAnyH_take (i := 1) (oi := ⟨some 89, _, _, _, _, _⟩) (v := ?_) rfl (by kernel_rfl) (by kernel_rfl) (by kernel_rfl) (fun _ _ _ h => h) (Or.inl ⟨by rfl, ?_⟩) (by assumption) ?_
      rotate_left
      · (intro u hu; (try dsimp only at hu); go_simp; (try with_reducible rfl))
      (try simp only [Act.put, List.setIfInBounds_toArray, List.set_cons_zero, List.set_cons_succ])
      refine wpAnyH_take (i := 2) (oi := ⟨some 90, _, _, _, _, _⟩) (v := ?_) rfl (by kernel_rfl) (by kernel_rfl) (by kernel_rfl) (fun _ _ _ h => h) (Or.inl ⟨by rfl, ?_⟩) (by assumption) ?_
      rotate_left
      · (intro u hu; (try dsimp only at hu); go_simp; (try with_reducible rfl))
      (try simp only [Act.put, List.setIfInBounds_toArray, List.set_cons_zero, List.set_cons_succ])
      refine wpAnyH_take (i := 3) (oi := ⟨some 91, _, _, _, _, _⟩) (v := ?_) rfl (by kernel_rfl) (by kernel_rfl) (by kernel_rfl) (fun _ _ _ h => h) (Or.inl ⟨by rfl, ?_⟩) (by assumption) ?_
      rotate_left
      · (intro u hu; (try dsimp only at hu); go_simp; (try with_reducible rfl))
      (try simp only [Act.put, List.setIfInBounds_toArray, List.set_cons_zero, List.set_cons_succ])
      refine wpAnyH_take (i := 4) (oi := ⟨some 92, _, _, _, _, _⟩) (v := ?_) rfl (by kernel_rfl) (by kernel_rfl) (by kernel_rfl) (fun _ _ _ h => h) (Or.inl ⟨by rfl, ?_⟩) (by assumption) ?_
      rotate_left
      · (intro u hu; (try dsimp only at hu); go_simp; (try with_reducible rfl))
      (try simp only [Act.put, List.setIfInBounds_toArray, List.set_cons_zero, List.set_cons_succ])
      refine wpAnyH_ready (rs := [5]) (by decide +kernel) (by simp) ?_
      refine AllReadyH.cons (o := ⟨none, _, _, _, _, _⟩) rfl (fun K hK => ?_) AllReadyH.nil
      rw [if_pos (by rfl)]
      refine oper_store 51 _ _ rfl (w.heap.size) 51 _ #[.int .i64 0, .int .i64 0, .int .i64 0, .string ⟨#[]⟩, .int .i64 0, .int .i64 0, .bool false, .int .i64 0, .bool false, .string ⟨#[]⟩, .int .i64 0, .slice none 0 0] rfl rfl (HOz.out.drewN 1) (by show (Try.prog.info? 51).map (·.size) = some 12; kernel_rfl) rfl (by simp [Value.oneCell']) ?_
      have hA := Lib.hid (box_off (HSt.out.drewN 1) (show w.heap.size + 1 ≠ w.heap.size by omega) #[.int .i64 0, .int .i64 0, .int .i64 0, .string ⟨#[]⟩, .int .i64 0, .int .i64 0, .bool false, .int .i64 0, .bool false, .string ⟨#[]⟩, .int .i64 0, .slice none 0 0])
      refine hK.out _ _ ?_ (fun hHeld => ?_)
      · exact hA.out
      clear hK K
      (try simp only [Act.put])
      refine wpAnyH_take (i := 6) (oi := ⟨some 3, _, _, _, _, _⟩) (v := ?_) rfl (by kernel_rfl) (by kernel_rfl) (by kernel_rfl) (fun _ _ _ h => h) (Or.inl ⟨by rfl, ?_⟩) (by assumption) ?_
      rotate_left
      · (intro u hu; (try dsimp only at hu); go_simp; (try with_reducible rfl))
      (try simp only [Act.put, List.setIfInBounds_toArray, List.set_cons_zero, List.set_cons_succ])
      refine wpAnyH_take (i := 7) (oi := ⟨some 4, _, _, _, _, _⟩) (v := ?_) rfl (by kernel_rfl) (by kernel_rfl) (by kernel_rfl) (fun _ _ _ h => h) (Or.inl ⟨by rfl, ?_⟩) (by assumption) ?_
      rotate_left
      · (intro u hu; (try dsimp only at hu); go_simp; (try with_reducible rfl))
      (try simp only [Act.put, List.setIfInBounds_toArray, List.set_cons_zero, List.set_cons_succ])
      refine wpAnyH_done (by kernel_rfl) ?_ _
      clear z2 z3
      go_wp2_with fail
      have hu : (u.drewN 1).ownsRow w.heap.size 67 12 (.slice A n c) n (cellsS v.ss) := HRz.out
      refine bodyPost_ret (res_ctt rfl _ _ (w.heap.size) #[.int .i64 0, .int .i64 0, .int .i64 0, .string ⟨#[]⟩, .int .i64 0, .int .i64 0, .bool false, .int .i64 0, .bool false, .string ⟨#[]⟩, .int .i64 0, .slice none 0 0] Try.underlying51 (by show (Try.prog.info? 51).map (·.size) = some 12; kernel_rfl) rfl (box_set (HOz.out.drewN 1) _)) rfl (HF.out A n c _ _ hlen.out hcap ?_ ?_ (by rw [takenV_err HE.out]; rfl))
      · exact steps_own (hu.kept (setRow_grown _ w.heap.size #[.int .i64 0, .int .i64 0, .int .i64 0, .string ⟨#[]⟩, .int .i64 0, .int .i64 0, .bool false, .int .i64 0, .bool false, .string ⟨#[]⟩, .int .i64 0, .slice none 0 0]) (.inr (own_far hu (HOz.out.drewN 1) (by decide))))
      · exact below_putRow (Below.drew HBz.out) (Nat.le_refl _) _
end Go.Proofs.Ytihkadbcjeohjaa.Co
