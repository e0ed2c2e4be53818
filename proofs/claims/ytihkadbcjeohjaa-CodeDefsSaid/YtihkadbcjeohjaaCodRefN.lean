/-
  What the document's own reader answers, by its state: TakeN, TextS, FlagY, Count, End, takePlan.
  Conditions: the place is within the bytes; they are at most 2^40.
-/
import Derived.Test.YtihkadbcjeohjaaCodRefs3
import Derived.Test.YtihkadbcjeohjaaCodRead
namespace Go.Proofs.Ytihkadbcjeohjaa.Co
open Go.RowKit
open Go.Proofs.Ytihkadbcjeohjaa.El
open Go.Proofs.Ytihkadbcjeohjaa.Df
open Go.Proofs.Ytihkadbcjeohjaa.Bo (P Made ret_int ret_bool)
open Go.Proofs.Ytihkadbcjeohjaa.Sa (Sg Rp)

/-- the document's reader -/
def stQ (B : ByteArray) (s : Ps) (n : Int) (S : ByteArray) (y : Bool) : Array Value := #[.string B, .int .i64 (s.p : Nat), .int .i64 (s.e : Nat), .int .i64 (s.o : Nat), .int .i64 n, .string S, .bool y]
/-- a place within the bytes -/
structure Ok (B : ByteArray) (s : Ps) : Prop where
  le : s.p ≤ B.size
  sm : B.size ≤ 1099511627776
  no : s.e = 0 → s.o = 0
theorem nxO_zero {p o e e0 : Nat} (h : e = 0 → o = 0) (hz : nxE e e0 = 0) : nxO p o e e0 = 0 := by
  obtain ⟨h1, h2⟩ := nxE_zero hz
  unfold nxO
  rw [if_neg (by omega)]
  exact h h1
section
variable {B : ByteArray} {s : Ps}
theorem nxP_le {p e n e0 m : Nat} (h : p ≤ m) (h2 : e0 = 0 → p + n ≤ m) : nxP p e n e0 ≤ m := by
  unfold nxP
  split
  · next h3 => exact h2 h3.2
  · exact h
theorem Ok.num (h : Ok B s) : Ok B (numS B.data.toList s) := ⟨nxP_le h.le (fun he => by have := numE_len he; rw [size_eq] at this; exact this), h.sm, nxO_zero h.no⟩
theorem Ok.txt (h : Ok B s) : Ok B (txtS B.data.toList s) := ⟨nxP_le h.le (fun he => by have := (txt_zero (l := B.data.toList) (s := s) he).2.2; rw [size_eq] at this; omega), h.sm, nxO_zero h.no⟩
theorem Ok.flg (h : Ok B s) : Ok B (flgS B.data.toList s) := ⟨nxP_le h.le (fun he => by
  unfold flagE at he
  by_cases h3 : s.p < B.data.toList.length
  · rw [size_eq] at h3; omega
  · rw [dif_neg h3] at he; cases he), h.sm, nxO_zero h.no⟩
theorem Ok.cnt (h : Ok B s) : Ok B (cntS B.data.toList s) := ⟨nxP_le h.le (fun he => by have := numE_len (cnt_zero (l := B.data.toList) (s := s) he).1; rw [size_eq] at this; exact this), h.sm, nxO_zero h.no⟩
theorem Ok.plan (h : Ok B s) : Ok B (planS B.data.toList s) := h.num.num.num.num
theorem Ok.zero (h : B.size ≤ 1099511627776) : Ok B (at0 0) := ⟨Nat.zero_le _, h, fun _ => rfl⟩
end
theorem stcell {w : World} {g : Nat} {B : ByteArray} {s : Ps} {n : Int} {S : ByteArray} {y : Bool} (h : Box w g 85 #[.string B, .int .i64 (s.p : Nat), .int .i64 (s.e : Nat), .int .i64 (s.o : Nat), .int .i64 n, .string S, .bool y]) :
    w.cell? ⟨g, 0, none⟩ = some (.string B) ∧ w.cell? ⟨g, 1, none⟩ = some (.int .i64 (s.p : Nat)) ∧ w.cell? ⟨g, 2, none⟩ = some (.int .i64 (s.e : Nat)) ∧ w.cell? ⟨g, 3, none⟩ = some (.int .i64 (s.o : Nat)) ∧
      w.cell? ⟨g, 4, none⟩ = some (.int .i64 n) ∧ w.cell? ⟨g, 5, none⟩ = some (.string S) ∧ w.cell? ⟨g, 6, none⟩ = some (.bool y) := ⟨h.cell 0, h.cell 1, h.cell 2, h.cell 3, h.cell 4, h.cell 5, h.cell 6⟩
theorem size_st (B : ByteArray) (p e o n : Int) (S : ByteArray) (y : Bool) : (Try.prog.info? 85).map (·.size) = some (#[.string B, .int .i64 p, .int .i64 e, .int .i64 o, .int .i64 n, .string S, .bool y] : Array Value).size := by
  show (Try.prog.info? 85).map (·.size) = some 7
  kernel_rfl
set_option maxHeartbeats 2000000 in
set_option maxRecDepth 100000 in
theorem takeN_s (B : ByteArray) (s : Ps) (n : Int) (S : ByteArray) (y : Bool) (w : World) (hk : Ok B s) :
    Calls Try.prog 46 #[.agg (stQ B s n S y)] w fun e w' => e = .returned (.agg (stQ B (numS B.data.toList s) (numQ B.data.toList s : Nat) S y)) ∧ Below w.heap.size w w' := by
  have HT : Hid (∀ W, Calls Try.prog 77 #[.agg #[.string B, .int .i64 (s.p : Nat), .int .i64 (s.e : Nat), .int .i64 (s.o : Nat), .int .i64 n, .string S, .bool y]] W fun e w' => e = .returned (.tuple #[.agg #[.string B, .int .i64 ((numS B.data.toList s).p : Nat), .int .i64 ((numS B.data.toList s).e : Nat), .int .i64 ((numS B.data.toList s).o : Nat), .int .i64 n, .string S, .bool y], .int .i64 (numQ B.data.toList s : Nat)]) ∧ Below W.heap.size W w') := Lib.hid fun W => xtake_any n S y B s.p s.e s.o W hk.le hk.sm hk.no
  unfold stQ
  obtain ⟨t, ht⟩ : ∃ t, t = numS B.data.toList s := ⟨_, rfl⟩
  rw [← ht] at HT ⊢
  clear ht hk
  obtain ⟨q, hq⟩ : ∃ q, q = (numQ B.data.toList s : Int) := ⟨_, rfl⟩
  rw [← hq] at HT ⊢
  clear hq
  go_enter Try.func46, Try.ntmps46
  go_wp2_with fail
  refine (HT.out _).mono ?_
  rintro e w1 ⟨rfl, b1⟩
  have hB2 := Lib.hid ((Box.new2 w _ _ _).below b1 (by simp))
  have hW := Lib.hid ((below2 w _ _).trans (b1.mono (by simp; omega)))
  have hz := hW.out.size
  have hz2 := hB2.out.lt
  clear b1
  go_wp2_with (refine wpList_store_row rfl 85 (.tmp 2) (.tmp 12) rfl (w.heap.size + 1) 85 _ #[.string B, .int .i64 (t.p : Nat), .int .i64 (t.e : Nat), .int .i64 (t.o : Nat), .int .i64 q, .string S, .bool y] rfl rfl (hB2.out.alloc _) (size_st _ _ _ _ _ _ _) rfl (by simp [Value.oneCell']) ?_)
  refine bodyPost_ret (results_cell_row rfl _ _ (w.heap.size + 1) 85 #[.string B, .int .i64 (t.p : Nat), .int .i64 (t.e : Nat), .int .i64 (t.o : Nat), .int .i64 q, .string S, .bool y] (0, 0) _ rfl (box_set (hB2.out.alloc _) _) Try.underlying85 rfl (size_st _ _ _ _ _ _ _)) rfl ⟨rfl, ?_⟩
  exact below_putRow (hW.out.alloc hz _) (by omega) _
set_option maxHeartbeats 2000000 in
set_option maxRecDepth 100000 in
theorem textS_s (B : ByteArray) (s : Ps) (n : Int) (S : ByteArray) (y : Bool) (w : World) (hk : Ok B s) :
    Calls Try.prog 47 #[.agg (stQ B s n S y), .int .i64 256] w fun e w' => e = .returned (.agg (stQ B (txtS B.data.toList s) n (txtQ B.data.toList s) y)) ∧ Below w.heap.size w w' := by
  have HT : Hid (∀ W, Calls Try.prog 78 #[.agg #[.string B, .int .i64 (s.p : Nat), .int .i64 (s.e : Nat), .int .i64 (s.o : Nat), .int .i64 n, .string S, .bool y], .int .i64 256] W fun e w' => e = .returned (.tuple #[.agg #[.string B, .int .i64 ((txtS B.data.toList s).p : Nat), .int .i64 ((txtS B.data.toList s).e : Nat), .int .i64 ((txtS B.data.toList s).o : Nat), .int .i64 n, .string S, .bool y], .string (txtQ B.data.toList s)]) ∧ Below W.heap.size W w') := Lib.hid fun W => xtext_any n S y B s.p s.e s.o 256 W hk.le hk.sm hk.no
  unfold stQ
  obtain ⟨t, ht⟩ : ∃ t, t = txtS B.data.toList s := ⟨_, rfl⟩
  rw [← ht] at HT ⊢
  clear ht hk
  obtain ⟨q, hq⟩ : ∃ q, q = txtQ B.data.toList s := ⟨_, rfl⟩
  rw [← hq] at HT ⊢
  clear hq
  go_enter Try.func47, Try.ntmps47
  go_wp2_with fail
  refine (HT.out _).mono ?_
  rintro e w1 ⟨rfl, b1⟩
  have hB2 := Lib.hid ((Box.new2 w _ _ _).below b1 (by simp))
  have hW := Lib.hid ((below2 w _ _).trans (b1.mono (by simp; omega)))
  have hz := hW.out.size
  have hz2 := hB2.out.lt
  clear b1
  go_wp2_with (refine wpList_store_row rfl 85 (.tmp 4) (.tmp 15) rfl (w.heap.size + 1) 85 _ #[.string B, .int .i64 (t.p : Nat), .int .i64 (t.e : Nat), .int .i64 (t.o : Nat), .int .i64 n, .string q, .bool y] rfl rfl (hB2.out.alloc _) (size_st _ _ _ _ _ _ _) rfl (by simp [Value.oneCell']) ?_)
  refine bodyPost_ret (results_cell_row rfl _ _ (w.heap.size + 1) 85 #[.string B, .int .i64 (t.p : Nat), .int .i64 (t.e : Nat), .int .i64 (t.o : Nat), .int .i64 n, .string q, .bool y] (0, 0) _ rfl (box_set (hB2.out.alloc _) _) Try.underlying85 rfl (size_st _ _ _ _ _ _ _)) rfl ⟨rfl, ?_⟩
  exact below_putRow (hW.out.alloc hz _) (by omega) _
set_option maxHeartbeats 2000000 in
set_option maxRecDepth 100000 in
theorem flagY_s (B : ByteArray) (s : Ps) (n : Int) (S : ByteArray) (y : Bool) (w : World) (hk : Ok B s) :
    Calls Try.prog 48 #[.agg (stQ B s n S y)] w fun e w' => e = .returned (.agg (stQ B (flgS B.data.toList s) n S (flgQ B.data.toList s))) ∧ Below w.heap.size w w' := by
  have HT : Hid (∀ W, Calls Try.prog 79 #[.agg #[.string B, .int .i64 (s.p : Nat), .int .i64 (s.e : Nat), .int .i64 (s.o : Nat), .int .i64 n, .string S, .bool y]] W fun e w' => e = .returned (.tuple #[.agg #[.string B, .int .i64 ((flgS B.data.toList s).p : Nat), .int .i64 ((flgS B.data.toList s).e : Nat), .int .i64 ((flgS B.data.toList s).o : Nat), .int .i64 n, .string S, .bool y], .bool (flgQ B.data.toList s)]) ∧ Below W.heap.size W w') := Lib.hid fun W => xflag_any n S y B s.p s.e s.o W hk.le hk.sm hk.no
  unfold stQ
  obtain ⟨t, ht⟩ : ∃ t, t = flgS B.data.toList s := ⟨_, rfl⟩
  rw [← ht] at HT ⊢
  clear ht hk
  obtain ⟨q, hq⟩ : ∃ q, q = flgQ B.data.toList s := ⟨_, rfl⟩
  rw [← hq] at HT ⊢
  clear hq
  go_enter Try.func48, Try.ntmps48
  go_wp2_with fail
  refine (HT.out _).mono ?_
  rintro e w1 ⟨rfl, b1⟩
  have hB2 := Lib.hid ((Box.new2 w _ _ _).below b1 (by simp))
  have hW := Lib.hid ((below2 w _ _).trans (b1.mono (by simp; omega)))
  have hz := hW.out.size
  have hz2 := hB2.out.lt
  clear b1
  go_wp2_with (refine wpList_store_row rfl 85 (.tmp 2) (.tmp 12) rfl (w.heap.size + 1) 85 _ #[.string B, .int .i64 (t.p : Nat), .int .i64 (t.e : Nat), .int .i64 (t.o : Nat), .int .i64 n, .string S, .bool q] rfl rfl (hB2.out.alloc _) (size_st _ _ _ _ _ _ _) rfl (by simp [Value.oneCell']) ?_)
  refine bodyPost_ret (results_cell_row rfl _ _ (w.heap.size + 1) 85 #[.string B, .int .i64 (t.p : Nat), .int .i64 (t.e : Nat), .int .i64 (t.o : Nat), .int .i64 n, .string S, .bool q] (0, 0) _ rfl (box_set (hB2.out.alloc _) _) Try.underlying85 rfl (size_st _ _ _ _ _ _ _)) rfl ⟨rfl, ?_⟩
  exact below_putRow (hW.out.alloc hz _) (by omega) _
theorem count_s (B : ByteArray) (s : Ps) (n : Int) (S : ByteArray) (y : Bool) (w : World) (hk : Ok B s) :
    Calls Try.prog 65 #[.agg (stQ B s n S y), .int .i64 32, .int .i64 96] w fun e w' => e = .returned (.tuple #[.agg (stQ B (cntS B.data.toList s) n S y), .int .i64 (cntQ B.data.toList s : Nat)]) ∧ Below w.heap.size w w' :=
  xcount_any n S y B s.p s.e s.o 32 96 w hk.le hk.sm hk.no (by omega) (by omega)
theorem endR_s (B : ByteArray) (s : Ps) (n : Int) (S : ByteArray) (y : Bool) (w : World) (hk : Ok B s) :
    Calls Try.prog 36 #[.agg (stQ B s n S y)] w fun e w' => e = .returned (.agg (stQ B (endS B.data.toList s) n S y)) ∧ Below w.heap.size w w' :=
  xend_any n S y B s.p s.e s.o w hk.no
end Go.Proofs.Ytihkadbcjeohjaa.Co
