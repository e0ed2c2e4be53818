/-
  The document's TakeDef.
  Conditions: the place is within the bytes; they are at most 2^40.
-/
import Derived.Test.YtihkadbcjeohjaaCodRSaga
import Derived.Test.YtihkadbcjeohjaaCodTEvent
namespace Go.Proofs.Ytihkadbcjeohjaa.Co
open Go.RowKit
open Go.Proofs.Ytihkadbcjeohjaa.El
open Go.Proofs.Ytihkadbcjeohjaa.Df
open Go.Proofs.Ytihkadbcjeohjaa.Bo (P Made ret_int ret_bool)
open Go.Proofs.Ytihkadbcjeohjaa.Sa (Sg Rp)

section
variable {b u v : World} {row : Option Nat}
theorem grown_call (h : b.grownBy u row) (hb : Below u.heap.size u v) : b.grownBy v row :=
  ⟨hb.os.trans h.os, hb.tape.trans h.tape, hb.output.trans h.output, Nat.le_trans h.size hb.size, fun i hi hx => (hb.block i (Nat.lt_of_lt_of_le hi h.size)).trans (h.block i hi hx)⟩
theorem grown_row {g : Nat} (h : b.grownBy u (some g)) (cs : Array Value) : b.grownBy (u.setRow g cs) (some g) :=
  ⟨h.os, h.tape, h.output, by rw [setRow_size]; exact h.size, fun i hi hx => (setRow_other u g i cs (fun e => hx (by rw [e]))).trans (h.block i hi hx)⟩
theorem grown_part {g : Nat} (h : b.grownBy u row) (hg : b.heap.size ≤ g) (cs : Array Value) : b.grownBy (u.setRow g cs) row :=
  ⟨h.os, h.tape, h.output, by rw [setRow_size]; exact h.size, fun i hi hx => (setRow_other u g i cs (by omega)).trans (h.block i hi hx)⟩
theorem grown_put {g : Nat} (h : b.grownBy u row) (hg : b.heap.size ≤ g) (i : Nat) (x : Value) : b.grownBy (u.setCell ⟨g, i, none⟩ x) row :=
  ⟨h.os, h.tape, h.output, by simpa [World.setCell] using h.size, fun j hj hx => (Below.heap_setCell u ⟨g, i, none⟩ x j (show j ≠ g by omega)).trans (h.block j hj hx)⟩
theorem grown_al (h : b.grownBy u row) (o : Obj) : b.grownBy (u.alloc o) row := grown_call h ((Below.refl _ u).alloc (Nat.le_refl _) o)
end
theorem Ok.step {B : ByteArray} {s : Ps} (h : Ok B s) : Ok B (stepS B.data.toList s) := h.txt.txt.num.plan.plan.num
theorem Ok.steps {B : ByteArray} : ∀ (k : Nat) {s : Ps}, Ok B s → Ok B (stepsS B.data.toList k s)
  | 0, _, h => h
  | k + 1, _, h => Ok.steps k h.step
/-- where the loop stands -/
structure Rl (w u : World) (B : ByteArray) (t : Ps) (n : Int) (S : ByteArray) (y : Bool) (nm : ByteArray) (dl : Int) (A : Option Addr) (k c : Nat) (xs : List Stp) : Prop where
  st : Box u w.heap.size 85 #[.string B, .int .i64 (t.p : Nat), .int .i64 (t.e : Nat), .int .i64 (t.o : Nat), .int .i64 n, .string S, .bool y]
  z2 : Box u (w.heap.size + 1) 85 #[.string ⟨#[]⟩, .int .i64 0, .int .i64 0, .int .i64 0, .int .i64 0, .string ⟨#[]⟩, .bool false]
  z3 : Box u (w.heap.size + 2) 24 #[.string ⟨#[]⟩, .int .i64 0, .slice none 0 0]
  df : Box u (w.heap.size + 3) 24 #[.string nm, .int .i64 dl, .slice A k c]
  own : u.ownsRow w.heap.size 67 12 (.slice A k c) k (cellsS xs)
  bel : Below w.heap.size w u
theorem rl_grown {w wr u : World} {B : ByteArray} {t t2 : Ps} {n n2 : Int} {S S2 : ByteArray} {y yb : Bool} {nm : ByteArray} {dl : Int} {A : Option Addr} {k c : Nat} {xs : List Stp} (h : Rl w wr B t n S y nm dl A k c xs) (hg : wr.grownBy u (some w.heap.size))
    (hs : Box u w.heap.size 85 #[.string B, .int .i64 (t2.p : Nat), .int .i64 (t2.e : Nat), .int .i64 (t2.o : Nat), .int .i64 n2, .string S2, .bool yb]) (hb : Below w.heap.size w u) : Rl w u B t2 n2 S2 yb nm dl A k c xs :=
  ⟨hs, h.z2.grown hg (by simp), h.z3.grown hg (by simp), h.df.grown hg (by simp), h.own.kept hg (.inr (own_far h.own h.st (by decide))), hb⟩
theorem app_rl {w u v : World} {B : ByteArray} {t : Ps} {n : Int} {S : ByteArray} {y : Bool} {nm : ByteArray} {dl : Int} {A A2 : Option Addr} {k c c2 : Nat} {xs ys : List Stp} {o : Obj} (h : Rl w u B t n S y nm dl A k c xs) (hg : (u.alloc o).grownBy v (Value.slice A k c).ownBlock)
    (ho : v.ownsRow w.heap.size 67 12 (.slice A2 (k + 1) c2) (k + 1) (cellsS ys)) :
    Box v (w.heap.size + 3) 24 #[.string nm, .int .i64 dl, .slice A k c] ∧ Rl w (v.setCell ⟨w.heap.size + 3, 2, none⟩ (.slice A2 (k + 1) c2)) B t n S y nm dl A2 (k + 1) c2 ys := by
  have h1 := h.own.alloc o
  have hs : Box v (w.heap.size + 3) 24 #[.string nm, .int .i64 dl, .slice A k c] := (h.df.alloc o).grown hg (fun e => own_far h1 (h.df.alloc o) (by decide) e.symm)
  have hb : Below w.heap.size w (u.alloc o) := h.bel.alloc h.bel.size o
  refine ⟨hs, ((h.st.alloc o).grown hg (fun e => own_far h1 (h.st.alloc o) (by decide) e.symm)).far (p := ⟨w.heap.size + 3, 2, none⟩) (show w.heap.size ≠ w.heap.size + 3 by omega) _,
    ((h.z2.alloc o).grown hg (fun e => own_far h1 (h.z2.alloc o) (by decide) e.symm)).far (p := ⟨w.heap.size + 3, 2, none⟩) (show w.heap.size + 1 ≠ w.heap.size + 3 by omega) _,
    ((h.z3.alloc o).grown hg (fun e => own_far h1 (h.z3.alloc o) (by decide) e.symm)).far (p := ⟨w.heap.size + 3, 2, none⟩) (show w.heap.size + 2 ≠ w.heap.size + 3 by omega) _,
    hs.put 2 _, ho.kept (only_put (World.grownBy.refl v _) 2 _) (.inr (own_far ho hs (by decide))),
    (hb.grown hg hb.size (fun q hq => (h1.lt q hq).1)).setCell (p := ⟨w.heap.size + 3, 2, none⟩) (show w.heap.size ≤ w.heap.size + 3 by omega) _⟩
/-- what the document's taker of a definition answers and leaves -/
def RDefTo (w : World) (B : ByteArray) (s : Ps) (e : Ending) (w' : World) : Prop :=
  ∃ n S y A c, e = .returned (.tuple #[.agg #[.string B, .int .i64 (((defS B.data.toList s)).p : Nat), .int .i64 (((defS B.data.toList s)).e : Nat), .int .i64 (((defS B.data.toList s)).o : Nat), .int .i64 n, .string S, .bool y], .agg #[.string (txtQ B.data.toList s), .int .i64 (numQ B.data.toList (txtS B.data.toList s) : Nat), .slice A (defN B.data.toList s) c]]) ∧ Below w.heap.size w w' ∧ w'.ownsRow w.heap.size 67 12 (.slice A (defN B.data.toList s) c) (defN B.data.toList s) (cellsS (defSs B.data.toList s))
set_option maxHeartbeats 16000000 in
set_option maxRecDepth 100000 in
theorem takeDef_s (B : ByteArray) (s : Ps) (n : Int) (S : ByteArray) (y : Bool) (w : World) (hk : Ok B s) : Calls Try.prog 35 #[.agg #[.string B, .int .i64 (s.p : Nat), .int .i64 (s.e : Nat), .int .i64 (s.o : Nat), .int .i64 n, .string S, .bool y]] w (RDefTo w B s) := by
  obtain ⟨hx0, hx1, hx2, hx3⟩ := box4 w 85 85 24 24 #[.string B, .int .i64 (s.p : Nat), .int .i64 (s.e : Nat), .int .i64 (s.o : Nat), .int .i64 n, .string S, .bool y] #[.string ⟨#[]⟩, .int .i64 0, .int .i64 0, .int .i64 0, .int .i64 0, .string ⟨#[]⟩, .bool false] #[.string ⟨#[]⟩, .int .i64 0, .slice none 0 0] #[.string ⟨#[]⟩, .int .i64 0, .slice none 0 0]
  have HS0 := Lib.hid hx0
  have HO0_0 := Lib.hid hx1
  have HO1_0 := Lib.hid hx2
  have HX0 := Lib.hid hx3
  have HB0 : Hid (Below w.heap.size w ((((w.alloc (.cells #[.string B, .int .i64 (s.p : Nat), .int .i64 (s.e : Nat), .int .i64 (s.o : Nat), .int .i64 n, .string S, .bool y] 85)).alloc (.cells #[.string ⟨#[]⟩, .int .i64 0, .int .i64 0, .int .i64 0, .int .i64 0, .string ⟨#[]⟩, .bool false] 85)).alloc (.cells #[.string ⟨#[]⟩, .int .i64 0, .slice none 0 0] 24)).alloc (.cells #[.string ⟨#[]⟩, .int .i64 0, .slice none 0 0] 24))) := Lib.hid (((((Below.refl w.heap.size w).alloc (Nat.le_refl _) _).alloc (by simp) _).alloc (by simp; omega) _).alloc (by simp; omega) _)
  clear hx0 hx1 hx2 hx3
  obtain ⟨s1, hs1⟩ : ∃ t, t = txtS B.data.toList (s) := ⟨_, rfl⟩
  obtain ⟨q1, hq1⟩ : ∃ q, q = txtQ B.data.toList (s) := ⟨_, rfl⟩
  have HT1 : Hid (∀ W, Calls Try.prog 47 #[.agg #[.string B, .int .i64 ((s).p : Nat), .int .i64 ((s).e : Nat), .int .i64 ((s).o : Nat), .int .i64 n, .string S, .bool y], .int .i64 256] W fun e w2 => e = .returned (.agg #[.string B, .int .i64 ((s1).p : Nat), .int .i64 ((s1).e : Nat), .int .i64 ((s1).o : Nat), .int .i64 n, .string q1, .bool y]) ∧ Below W.heap.size W w2) := Lib.hid fun W => by rw [hs1, hq1]; exact textS_s B (s) _ _ _ W (hk)
  have ok1 : Ok B s1 := by rw [hs1]; exact Ok.txt (hk)
  obtain ⟨s2, hs2⟩ : ∃ t, t = numS B.data.toList (s1) := ⟨_, rfl⟩
  obtain ⟨q2, hq2⟩ : ∃ q, q = numQ B.data.toList (s1) := ⟨_, rfl⟩
  have HT2 : Hid (∀ W, Calls Try.prog 46 #[.agg #[.string B, .int .i64 ((s1).p : Nat), .int .i64 ((s1).e : Nat), .int .i64 ((s1).o : Nat), .int .i64 n, .string q1, .bool y]] W fun e w2 => e = .returned (.agg #[.string B, .int .i64 ((s2).p : Nat), .int .i64 ((s2).e : Nat), .int .i64 ((s2).o : Nat), .int .i64 (q2 : Nat), .string q1, .bool y]) ∧ Below W.heap.size W w2) := Lib.hid fun W => by rw [hs2, hq2]; exact takeN_s B (s1) _ _ _ W (ok1)
  have ok2 : Ok B s2 := by rw [hs2]; exact Ok.num (ok1)
  obtain ⟨s3, hs3⟩ : ∃ t, t = cntS B.data.toList s2 := ⟨_, rfl⟩
  obtain ⟨N, hN⟩ : ∃ q, q = cntQ B.data.toList s2 := ⟨_, rfl⟩
  have HCn : Hid (∀ W, Calls Try.prog 65 #[.agg #[.string B, .int .i64 ((s2).p : Nat), .int .i64 ((s2).e : Nat), .int .i64 ((s2).o : Nat), .int .i64 (q2 : Nat), .string q1, .bool y], .int .i64 32, .int .i64 96] W fun e w2 => e = .returned (.tuple #[.agg #[.string B, .int .i64 ((s3).p : Nat), .int .i64 ((s3).e : Nat), .int .i64 ((s3).o : Nat), .int .i64 (q2 : Nat), .string q1, .bool y], .int .i64 (N : Nat)]) ∧ Below W.heap.size W w2) := Lib.hid fun W => by rw [hs3, hN]; exact count_s B s2 _ _ _ W ok2
  have ok3 : Ok B s3 := by rw [hs3]; exact Ok.cnt ok2
  have hN32 : N ≤ 32 := by rw [hN]; exact cntQ_le _
  have HG : Hid (defS B.data.toList s = stepsS B.data.toList N s3 ∧ defSs B.data.toList s = stepsQ B.data.toList N s3 ∧ defN B.data.toList s = N ∧ txtQ B.data.toList s = q1 ∧ numQ B.data.toList (txtS B.data.toList s) = q2) := Lib.hid (by subst_vars; exact ⟨rfl, rfl, rfl, rfl, rfl⟩)
  have Hok3 := Lib.hid ok3
  clear ok3 hs3 hN
  have Hok2 := Lib.hid ok2
  clear ok2 hs2 hq2
  have Hok1 := Lib.hid ok1
  clear ok1 hs1 hq1
  have HF : Hid (∀ n S y A c w', Below w.heap.size w w' → w'.ownsRow w.heap.size 67 12 (.slice A N c) N (cellsS (stepsQ B.data.toList N s3)) → RDefTo w B s (.returned (.tuple #[.agg #[.string B, .int .i64 (((stepsS B.data.toList N s3)).p : Nat), .int .i64 (((stepsS B.data.toList N s3)).e : Nat), .int .i64 (((stepsS B.data.toList N s3)).o : Nat), .int .i64 n, .string S, .bool y], .agg #[.string q1, .int .i64 (q2 : Nat), .slice A N c]])) w') := Lib.hid fun n S y A c w' h1 h2 => by
    unfold RDefTo
    rw [HG.out.1, HG.out.2.1, HG.out.2.2.1, HG.out.2.2.2.1, HG.out.2.2.2.2]
    exact ⟨n, S, y, A, c, rfl, h1, h2⟩
  clear HG hk Hok1 Hok2
  obtain ⟨i0, hi0, hz0, hz1, hz2⟩ := info_is
  go_enter Try.func35, Try.ntmps35
  go_upto_region 2 with fail
  generalize (((w.alloc (.cells #[.string B, .int .i64 (s.p : Nat), .int .i64 (s.e : Nat), .int .i64 (s.o : Nat), .int .i64 n, .string S, .bool y] 85)).alloc (.cells #[.string ⟨#[]⟩, .int .i64 0, .int .i64 0, .int .i64 0, .int .i64 0, .string ⟨#[]⟩, .bool false] 85)).alloc (.cells #[.string ⟨#[]⟩, .int .i64 0, .slice none 0 0] 24)).alloc (.cells #[.string ⟨#[]⟩, .int .i64 0, .slice none 0 0] 24) = W0 at *
  obtain ⟨e0, e1, e2, e3, e4, e5, e6⟩ := stcell (s := s) HS0.out
  go_wp2_with fail
  refine (HT1.out _).mono ?_
  rintro e w1 ⟨rfl, hb⟩
  have HR1 := Lib.hid (HS0.out.below hb HS0.out.lt)
  have HU1 := Lib.hid (HX0.out.below hb HX0.out.lt)
  have HD1 := Lib.hid (HB0.out.trans (hb.mono HB0.out.size))
  have HV0_1 := Lib.hid (HO0_0.out.below hb HO0_0.out.lt)
  have HV1_1 := Lib.hid (HO1_0.out.below hb HO1_0.out.lt)
  clear hb HS0 HX0 HB0 HO0_0 HO1_0 HT1
  clear e0 e1 e2 e3 e4 e5 e6
  go_wp2_with (refine wpList_store_row rfl 85 (.tmp 1) (.tmp 14) rfl (w.heap.size) 85 _ #[.string B, .int .i64 ((s1).p : Nat), .int .i64 ((s1).e : Nat), .int .i64 ((s1).o : Nat), .int .i64 n, .string q1, .bool y] rfl rfl HR1.out (size_st _ _ _ _ _ _ _) rfl (by simp [Value.oneCell']) ?_; have HI1 := Lib.hid (box_set HR1.out #[.string B, .int .i64 ((s1).p : Nat), .int .i64 ((s1).e : Nat), .int .i64 ((s1).o : Nat), .int .i64 n, .string q1, .bool y]); have HY1 := Lib.hid (box_off HU1.out (show w.heap.size + 3 ≠ w.heap.size by omega) #[.string B, .int .i64 ((s1).p : Nat), .int .i64 ((s1).e : Nat), .int .i64 ((s1).o : Nat), .int .i64 n, .string q1, .bool y]); have HC1 := Lib.hid (below_putRow HD1.out (show w.heap.size ≤ w.heap.size by omega) #[.string B, .int .i64 ((s1).p : Nat), .int .i64 ((s1).e : Nat), .int .i64 ((s1).o : Nat), .int .i64 n, .string q1, .bool y]); have HP0_1 := Lib.hid (box_off HV0_1.out (show w.heap.size + 1 ≠ w.heap.size by omega) #[.string B, .int .i64 ((s1).p : Nat), .int .i64 ((s1).e : Nat), .int .i64 ((s1).o : Nat), .int .i64 n, .string q1, .bool y]); have HP1_1 := Lib.hid (box_off HV1_1.out (show w.heap.size + 2 ≠ w.heap.size by omega) #[.string B, .int .i64 ((s1).p : Nat), .int .i64 ((s1).e : Nat), .int .i64 ((s1).o : Nat), .int .i64 n, .string q1, .bool y]); clear HR1 HU1 HD1 HV0_1 HV1_1; generalize w1.setRow (w.heap.size) #[.string B, .int .i64 ((s1).p : Nat), .int .i64 ((s1).e : Nat), .int .i64 ((s1).o : Nat), .int .i64 n, .string q1, .bool y] = u1 at *; obtain ⟨d0, d1, d2, d3, d4, d5, d6⟩ := stcell (s := s1) HI1.out; have xo := HY1.out.cell 0; simp only [List.getElem?_toArray, List.getElem?_cons_zero] at xo; have xf := HY1.out.frozen 0; have HS1 := Lib.hid (HI1.out.far (p := ⟨w.heap.size + 3, 0, none⟩) (show w.heap.size ≠ w.heap.size + 3 by omega) (.string (q1))); have HX1 : Hid (Box (u1.setCell ⟨w.heap.size + 3, 0, none⟩ (.string (q1))) (w.heap.size + 3) 24 #[.string (q1), .int .i64 0, .slice none 0 0]) := Lib.hid (HY1.out.put 0 (.string (q1))); have HB1 := Lib.hid (HC1.out.setCell (p := ⟨w.heap.size + 3, 0, none⟩) (show w.heap.size ≤ w.heap.size + 3 by omega) (.string (q1))); have HO0_1 := Lib.hid (HP0_1.out.far (p := ⟨w.heap.size + 3, 0, none⟩) (show w.heap.size + 1 ≠ w.heap.size + 3 by omega) (.string (q1))); have HO1_1 := Lib.hid (HP1_1.out.far (p := ⟨w.heap.size + 3, 0, none⟩) (show w.heap.size + 2 ≠ w.heap.size + 3 by omega) (.string (q1))); obtain ⟨e0, e1, e2, e3, e4, e5, e6⟩ := stcell (s := s1) HS1.out)
  clear d0 d1 d2 d3 d4 d5 d6 xo xf e0 e1 e2 e3 e4 e5 e6 HI1 HY1 HC1 HP0_1 HP1_1
  generalize u1.setCell ⟨w.heap.size + 3, 0, none⟩ (.string (q1)) = V1 at *
  refine (HT2.out _).mono ?_
  rintro e w2 ⟨rfl, hb⟩
  have HR2 := Lib.hid (HS1.out.below hb HS1.out.lt)
  have HU2 := Lib.hid (HX1.out.below hb HX1.out.lt)
  have HD2 := Lib.hid (HB1.out.trans (hb.mono HB1.out.size))
  have HV0_2 := Lib.hid (HO0_1.out.below hb HO0_1.out.lt)
  have HV1_2 := Lib.hid (HO1_1.out.below hb HO1_1.out.lt)
  clear hb HS1 HX1 HB1 HO0_1 HO1_1 HT2
  go_wp2_with (refine wpList_store_row rfl 85 (.tmp 1) (.tmp 19) rfl (w.heap.size) 85 _ #[.string B, .int .i64 ((s2).p : Nat), .int .i64 ((s2).e : Nat), .int .i64 ((s2).o : Nat), .int .i64 (q2 : Nat), .string q1, .bool y] rfl rfl HR2.out (size_st _ _ _ _ _ _ _) rfl (by simp [Value.oneCell']) ?_; have HI2 := Lib.hid (box_set HR2.out #[.string B, .int .i64 ((s2).p : Nat), .int .i64 ((s2).e : Nat), .int .i64 ((s2).o : Nat), .int .i64 (q2 : Nat), .string q1, .bool y]); have HY2 := Lib.hid (box_off HU2.out (show w.heap.size + 3 ≠ w.heap.size by omega) #[.string B, .int .i64 ((s2).p : Nat), .int .i64 ((s2).e : Nat), .int .i64 ((s2).o : Nat), .int .i64 (q2 : Nat), .string q1, .bool y]); have HC2 := Lib.hid (below_putRow HD2.out (show w.heap.size ≤ w.heap.size by omega) #[.string B, .int .i64 ((s2).p : Nat), .int .i64 ((s2).e : Nat), .int .i64 ((s2).o : Nat), .int .i64 (q2 : Nat), .string q1, .bool y]); have HP0_2 := Lib.hid (box_off HV0_2.out (show w.heap.size + 1 ≠ w.heap.size by omega) #[.string B, .int .i64 ((s2).p : Nat), .int .i64 ((s2).e : Nat), .int .i64 ((s2).o : Nat), .int .i64 (q2 : Nat), .string q1, .bool y]); have HP1_2 := Lib.hid (box_off HV1_2.out (show w.heap.size + 2 ≠ w.heap.size by omega) #[.string B, .int .i64 ((s2).p : Nat), .int .i64 ((s2).e : Nat), .int .i64 ((s2).o : Nat), .int .i64 (q2 : Nat), .string q1, .bool y]); clear HR2 HU2 HD2 HV0_2 HV1_2; generalize w2.setRow (w.heap.size) #[.string B, .int .i64 ((s2).p : Nat), .int .i64 ((s2).e : Nat), .int .i64 ((s2).o : Nat), .int .i64 (q2 : Nat), .string q1, .bool y] = u2 at *; obtain ⟨d0, d1, d2, d3, d4, d5, d6⟩ := stcell (s := s2) HI2.out; have xo := HY2.out.cell 1; simp only [List.getElem?_toArray, List.getElem?_cons_zero, List.getElem?_cons_succ] at xo; have xf := HY2.out.frozen 1; have HS2 := Lib.hid (HI2.out.far (p := ⟨w.heap.size + 3, 1, none⟩) (show w.heap.size ≠ w.heap.size + 3 by omega) (.int .i64 (q2 : Nat))); have HX2 : Hid (Box (u2.setCell ⟨w.heap.size + 3, 1, none⟩ (.int .i64 (q2 : Nat))) (w.heap.size + 3) 24 #[.string (q1), .int .i64 (q2 : Nat), .slice none 0 0]) := Lib.hid (HY2.out.put 1 (.int .i64 (q2 : Nat))); have HB2 := Lib.hid (HC2.out.setCell (p := ⟨w.heap.size + 3, 1, none⟩) (show w.heap.size ≤ w.heap.size + 3 by omega) (.int .i64 (q2 : Nat))); have HO0_2 := Lib.hid (HP0_2.out.far (p := ⟨w.heap.size + 3, 1, none⟩) (show w.heap.size + 1 ≠ w.heap.size + 3 by omega) (.int .i64 (q2 : Nat))); have HO1_2 := Lib.hid (HP1_2.out.far (p := ⟨w.heap.size + 3, 1, none⟩) (show w.heap.size + 2 ≠ w.heap.size + 3 by omega) (.int .i64 (q2 : Nat))); obtain ⟨e0, e1, e2, e3, e4, e5, e6⟩ := stcell (s := s2) HS2.out)
  clear d0 d1 d2 d3 d4 d5 d6 xo xf e0 e1 e2 e3 e4 e5 e6 HI2 HY2 HC2 HP0_2 HP1_2
  generalize u2.setCell ⟨w.heap.size + 3, 1, none⟩ (.int .i64 (q2 : Nat)) = V2 at *
  refine (HCn.out _).mono ?_
  rintro e wc ⟨rfl, hb⟩
  have HRc := Lib.hid (HS2.out.below hb HS2.out.lt)
  have HUc := Lib.hid (HX2.out.below hb HX2.out.lt)
  have HDc := Lib.hid (HB2.out.trans (hb.mono HB2.out.size))
  have HV0 := Lib.hid (HO0_2.out.below hb HO0_2.out.lt)
  have HV1 := Lib.hid (HO1_2.out.below hb HO1_2.out.lt)
  clear hb HS2 HX2 HB2 HO0_2 HO1_2 HCn
  have HL0 : Hid (Rl w (wc.setRow (w.heap.size) #[.string B, .int .i64 ((s3).p : Nat), .int .i64 ((s3).e : Nat), .int .i64 ((s3).o : Nat), .int .i64 (q2 : Nat), .string q1, .bool y]) B (stepsS B.data.toList 0 s3) (q2 : Nat) q1 y q1 (q2 : Nat) none 0 0 (stepsQ B.data.toList 0 s3)) := Lib.hid ⟨box_set HRc.out _, box_off HV0.out (show w.heap.size + 1 ≠ w.heap.size by omega) _, box_off HV1.out (show w.heap.size + 2 ≠ w.heap.size by omega) _, box_off HUc.out (show w.heap.size + 3 ≠ w.heap.size by omega) _, World.ownsRow_nil _ _ _ _, below_putRow HDc.out (Nat.le_refl _) _⟩
  go_wp2_with (refine wpList_store_row rfl 85 (.tmp 1) (.tmp 26) rfl (w.heap.size) 85 _ #[.string B, .int .i64 ((s3).p : Nat), .int .i64 ((s3).e : Nat), .int .i64 ((s3).o : Nat), .int .i64 (q2 : Nat), .string q1, .bool y] rfl rfl HRc.out (size_st _ _ _ _ _ _ _) rfl (by simp [Value.oneCell']) ?_)
  generalize wc.setRow (w.heap.size) #[.string B, .int .i64 ((s3).p : Nat), .int .i64 ((s3).e : Nat), .int .i64 ((s3).o : Nat), .int .i64 (q2 : Nat), .string q1, .bool y] = W1 at *
  clear HRc HUc HDc HV0 HV1
  go_loopw [6] (fun vi wr => ∃ k : Nat, vi = .int .i64 (k : Int) ∧ k ≤ N ∧ ∃ (n : Int) (S : ByteArray) (y : Bool) (A : Option Addr) (c' : Nat), Hid (Rl w wr B (stepsS B.data.toList k s3) n S y q1 (q2 : Nat) A k c' (stepsQ B.data.toList k s3))) (fun vi _ => N - (intOf vi).toNat)
  case atStart => exact ⟨0, rfl, Nat.zero_le _, _, _, _, none, 0, HL0⟩
  case round =>
    obtain ⟨k, rfl, hk0, n2, S2, yb, A, c', HL⟩ := hrel
    clear HL0
    by_cases hkn : k < N
    · obtain ⟨tk, ht⟩ : ∃ z, z = stepsS B.data.toList k s3 := ⟨_, rfl⟩
      have hk : Ok B tk := by rw [ht]; exact Ok.steps k Hok3.out
      obtain ⟨xs, hxs⟩ : ∃ xs, xs = stepsQ B.data.toList k s3 := ⟨_, rfl⟩
      rw [← ht, ← hxs] at HL
      have HSn : Hid (stepsS B.data.toList (k + 1) s3 = stepS B.data.toList tk ∧ stepsQ B.data.toList (k + 1) s3 = xs ++ [stepQ B.data.toList tk]) := Lib.hid (by rw [stepsS_snoc, stepsQ_snoc, ht, hxs]; exact ⟨rfl, rfl⟩)
      clear ht hxs
      obtain ⟨rs1, hrs1⟩ : ∃ t, t = txtS B.data.toList (tk) := ⟨_, rfl⟩
      obtain ⟨rq1, hrq1⟩ : ∃ q, q = txtQ B.data.toList (tk) := ⟨_, rfl⟩
      have rHT1 : Hid (∀ W, Calls Try.prog 47 #[.agg #[.string B, .int .i64 ((tk).p : Nat), .int .i64 ((tk).e : Nat), .int .i64 ((tk).o : Nat), .int .i64 n2, .string S2, .bool yb], .int .i64 256] W fun e w2 => e = .returned (.agg #[.string B, .int .i64 ((rs1).p : Nat), .int .i64 ((rs1).e : Nat), .int .i64 ((rs1).o : Nat), .int .i64 n2, .string rq1, .bool yb]) ∧ Below W.heap.size W w2) := Lib.hid fun W => by rw [hrs1, hrq1]; exact textS_s B (tk) _ _ _ W (hk)
      have rok1 : Ok B rs1 := by rw [hrs1]; exact Ok.txt (hk)
      obtain ⟨rs2, hrs2⟩ : ∃ t, t = txtS B.data.toList (rs1) := ⟨_, rfl⟩
      obtain ⟨rq2, hrq2⟩ : ∃ q, q = txtQ B.data.toList (rs1) := ⟨_, rfl⟩
      have rHT2 : Hid (∀ W, Calls Try.prog 47 #[.agg #[.string B, .int .i64 ((rs1).p : Nat), .int .i64 ((rs1).e : Nat), .int .i64 ((rs1).o : Nat), .int .i64 n2, .string rq1, .bool yb], .int .i64 256] W fun e w2 => e = .returned (.agg #[.string B, .int .i64 ((rs2).p : Nat), .int .i64 ((rs2).e : Nat), .int .i64 ((rs2).o : Nat), .int .i64 n2, .string rq2, .bool yb]) ∧ Below W.heap.size W w2) := Lib.hid fun W => by rw [hrs2, hrq2]; exact textS_s B (rs1) _ _ _ W (rok1)
      have rok2 : Ok B rs2 := by rw [hrs2]; exact Ok.txt (rok1)
      obtain ⟨rs3, hrs3⟩ : ∃ t, t = numS B.data.toList (rs2) := ⟨_, rfl⟩
      obtain ⟨rq3, hrq3⟩ : ∃ q, q = numQ B.data.toList (rs2) := ⟨_, rfl⟩
      have rHT3 : Hid (∀ W, Calls Try.prog 46 #[.agg #[.string B, .int .i64 ((rs2).p : Nat), .int .i64 ((rs2).e : Nat), .int .i64 ((rs2).o : Nat), .int .i64 n2, .string rq2, .bool yb]] W fun e w2 => e = .returned (.agg #[.string B, .int .i64 ((rs3).p : Nat), .int .i64 ((rs3).e : Nat), .int .i64 ((rs3).o : Nat), .int .i64 (rq3 : Nat), .string rq2, .bool yb]) ∧ Below W.heap.size W w2) := Lib.hid fun W => by rw [hrs3, hrq3]; exact takeN_s B (rs2) _ _ _ W (rok2)
      have rok3 : Ok B rs3 := by rw [hrs3]; exact Ok.num (rok2)
      obtain ⟨t4, ht4⟩ : ∃ z, z = planS B.data.toList rs3 := ⟨_, rfl⟩
      obtain ⟨pa, hpa⟩ : ∃ z, z = planQ B.data.toList rs3 := ⟨_, rfl⟩
      have HPa : Hid (∀ W, Calls Try.prog 66 #[.agg #[.string B, .int .i64 ((rs3).p : Nat), .int .i64 ((rs3).e : Nat), .int .i64 ((rs3).o : Nat), .int .i64 (rq3 : Nat), .string rq2, .bool yb]] W fun e w2 => (∃ n', e = .returned (.tuple #[.agg #[.string B, .int .i64 ((t4).p : Nat), .int .i64 ((t4).e : Nat), .int .i64 ((t4).o : Nat), .int .i64 n', .string rq2, .bool yb], .agg #[.int .i64 pa.r, .int .i64 pa.b, .int .i64 pa.f, .int .i64 pa.c]])) ∧ Below W.heap.size W w2) := Lib.hid fun W => by rw [ht4, hpa]; exact takePlan_s B rs3 _ _ _ W rok3
      have ok4 : Ok B t4 := by rw [ht4]; exact Ok.plan rok3
      obtain ⟨t5, ht5⟩ : ∃ z, z = planS B.data.toList t4 := ⟨_, rfl⟩
      obtain ⟨pb, hpb⟩ : ∃ z, z = planQ B.data.toList t4 := ⟨_, rfl⟩
      have HPb : Hid (∀ n1 W, Calls Try.prog 66 #[.agg #[.string B, .int .i64 ((t4).p : Nat), .int .i64 ((t4).e : Nat), .int .i64 ((t4).o : Nat), .int .i64 n1, .string rq2, .bool yb]] W fun e w2 => (∃ n', e = .returned (.tuple #[.agg #[.string B, .int .i64 ((t5).p : Nat), .int .i64 ((t5).e : Nat), .int .i64 ((t5).o : Nat), .int .i64 n', .string rq2, .bool yb], .agg #[.int .i64 pb.r, .int .i64 pb.b, .int .i64 pb.f, .int .i64 pb.c]])) ∧ Below W.heap.size W w2) := Lib.hid fun n1 W => by rw [ht5, hpb]; exact takePlan_s B t4 _ _ _ W ok4
      have ok5 : Ok B t5 := by rw [ht5]; exact Ok.plan ok4
      obtain ⟨t6, ht6⟩ : ∃ z, z = numS B.data.toList t5 := ⟨_, rfl⟩
      obtain ⟨q6, hq6⟩ : ∃ z, z = numQ B.data.toList t5 := ⟨_, rfl⟩
      have HT6 : Hid (∀ n1 W, Calls Try.prog 46 #[.agg #[.string B, .int .i64 ((t5).p : Nat), .int .i64 ((t5).e : Nat), .int .i64 ((t5).o : Nat), .int .i64 n1, .string rq2, .bool yb]] W fun e w2 => e = .returned (.agg #[.string B, .int .i64 ((t6).p : Nat), .int .i64 ((t6).e : Nat), .int .i64 ((t6).o : Nat), .int .i64 (q6 : Nat), .string rq2, .bool yb]) ∧ Below W.heap.size W w2) := Lib.hid fun n1 W => by rw [ht6, hq6]; exact takeN_s B t5 _ _ _ W ok5
      have HQs : Hid (stepS B.data.toList tk = t6 ∧ stepQ B.data.toList tk = ⟨rq1, rq2, rq3, pa, pb, q6⟩) := Lib.hid (by subst_vars; exact ⟨rfl, rfl⟩)
      clear ok4 ok5 ht4 hpa ht5 hpb ht6 hq6
      have Hrok3 := Lib.hid rok3
      clear rok3 hrs3 hrq3
      have Hrok2 := Lib.hid rok2
      clear rok2 hrs2 hrq2
      have Hrok1 := Lib.hid rok1
      clear rok1 hrs1 hrq1
      clear Hrok1 Hrok2 Hrok3 hk
      have hzr : w.heap.size + 4 ≤ wr.heap.size := by have := HL.out.df.lt; omega
      have HS0 := Lib.hid (HL.out.st.alloc (.cells #[.string ⟨#[]⟩, .string ⟨#[]⟩, .int .i64 0, .int .i64 0, .int .i64 0, .int .i64 0, .int .i64 0, .int .i64 0, .int .i64 0, .int .i64 0, .int .i64 0, .int .i64 0] 67))
      have HX0 := Lib.hid (Box.new wr 67 #[.string ⟨#[]⟩, .string ⟨#[]⟩, .int .i64 0, .int .i64 0, .int .i64 0, .int .i64 0, .int .i64 0, .int .i64 0, .int .i64 0, .int .i64 0, .int .i64 0, .int .i64 0])
      have HB0 := Lib.hid (HL.out.bel.alloc (show w.heap.size ≤ wr.heap.size by omega) (.cells #[.string ⟨#[]⟩, .string ⟨#[]⟩, .int .i64 0, .int .i64 0, .int .i64 0, .int .i64 0, .int .i64 0, .int .i64 0, .int .i64 0, .int .i64 0, .int .i64 0, .int .i64 0] 67))
      have HG0 : Hid (wr.grownBy (wr.alloc (.cells #[.string ⟨#[]⟩, .string ⟨#[]⟩, .int .i64 0, .int .i64 0, .int .i64 0, .int .i64 0, .int .i64 0, .int .i64 0, .int .i64 0, .int .i64 0, .int .i64 0, .int .i64 0] 67)) (some w.heap.size)) := Lib.hid (grown_al (World.grownBy.refl _ _) _)
      go_upto_region 12 with fail
      generalize wr.alloc (.cells #[.string ⟨#[]⟩, .string ⟨#[]⟩, .int .i64 0, .int .i64 0, .int .i64 0, .int .i64 0, .int .i64 0, .int .i64 0, .int .i64 0, .int .i64 0, .int .i64 0, .int .i64 0] 67) = V0 at *
      obtain ⟨e0, e1, e2, e3, e4, e5, e6⟩ := stcell (s := tk) HS0.out
      go_wp2_with fail
      refine (rHT1.out _).mono ?_
      rintro e rw1 ⟨rfl, hb⟩
      have rHR1 := Lib.hid (HS0.out.below hb HS0.out.lt)
      have rHU1 := Lib.hid (HX0.out.below hb HX0.out.lt)
      have rHD1 := Lib.hid (HB0.out.trans (hb.mono HB0.out.size))
      have rHG1 := Lib.hid (grown_call HG0.out hb)
      clear hb HS0 HX0 HB0 HG0 rHT1
      clear e0 e1 e2 e3 e4 e5 e6
      go_wp2_with (refine wpList_store_row rfl 85 (.tmp 1) (.tmp 35) rfl (w.heap.size) 85 _ #[.string B, .int .i64 ((rs1).p : Nat), .int .i64 ((rs1).e : Nat), .int .i64 ((rs1).o : Nat), .int .i64 n2, .string rq1, .bool yb] rfl rfl rHR1.out (size_st _ _ _ _ _ _ _) rfl (by simp [Value.oneCell']) ?_; have rHI1 := Lib.hid (box_set rHR1.out #[.string B, .int .i64 ((rs1).p : Nat), .int .i64 ((rs1).e : Nat), .int .i64 ((rs1).o : Nat), .int .i64 n2, .string rq1, .bool yb]); have rHY1 := Lib.hid (box_off rHU1.out (show wr.heap.size ≠ w.heap.size by omega) #[.string B, .int .i64 ((rs1).p : Nat), .int .i64 ((rs1).e : Nat), .int .i64 ((rs1).o : Nat), .int .i64 n2, .string rq1, .bool yb]); have rHC1 := Lib.hid (below_putRow rHD1.out (show w.heap.size ≤ w.heap.size by omega) #[.string B, .int .i64 ((rs1).p : Nat), .int .i64 ((rs1).e : Nat), .int .i64 ((rs1).o : Nat), .int .i64 n2, .string rq1, .bool yb]); have rHH1 := Lib.hid (grown_row rHG1.out #[.string B, .int .i64 ((rs1).p : Nat), .int .i64 ((rs1).e : Nat), .int .i64 ((rs1).o : Nat), .int .i64 n2, .string rq1, .bool yb]); clear rHG1; clear rHR1 rHU1 rHD1 ; generalize rw1.setRow (w.heap.size) #[.string B, .int .i64 ((rs1).p : Nat), .int .i64 ((rs1).e : Nat), .int .i64 ((rs1).o : Nat), .int .i64 n2, .string rq1, .bool yb] = ru1 at *; obtain ⟨d0, d1, d2, d3, d4, d5, d6⟩ := stcell (s := rs1) rHI1.out; have xo := rHY1.out.cell 0; simp only [List.getElem?_toArray, List.getElem?_cons_zero] at xo; have xf := rHY1.out.frozen 0; have rHS1 := Lib.hid (rHI1.out.far (p := ⟨wr.heap.size, 0, none⟩) (show w.heap.size ≠ wr.heap.size by omega) (.string (rq1))); have rHX1 : Hid (Box (ru1.setCell ⟨wr.heap.size, 0, none⟩ (.string (rq1))) (wr.heap.size) 67 #[.string (rq1), .string ⟨#[]⟩, .int .i64 0, .int .i64 0, .int .i64 0, .int .i64 0, .int .i64 0, .int .i64 0, .int .i64 0, .int .i64 0, .int .i64 0, .int .i64 0]) := Lib.hid (rHY1.out.put 0 (.string (rq1))); have rHB1 := Lib.hid (rHC1.out.setCell (p := ⟨wr.heap.size, 0, none⟩) (show w.heap.size ≤ wr.heap.size by omega) (.string (rq1))); have rHG1 := Lib.hid (grown_put rHH1.out (show wr.heap.size ≤ wr.heap.size by omega) 0 (.string (rq1))); obtain ⟨e0, e1, e2, e3, e4, e5, e6⟩ := stcell (s := rs1) rHS1.out)
      clear d0 d1 d2 d3 d4 d5 d6 xo xf e0 e1 e2 e3 e4 e5 e6 rHI1 rHY1 rHC1  rHH1
      generalize ru1.setCell ⟨wr.heap.size, 0, none⟩ (.string (rq1)) = rV1 at *
      refine (rHT2.out _).mono ?_
      rintro e rw2 ⟨rfl, hb⟩
      have rHR2 := Lib.hid (rHS1.out.below hb rHS1.out.lt)
      have rHU2 := Lib.hid (rHX1.out.below hb rHX1.out.lt)
      have rHD2 := Lib.hid (rHB1.out.trans (hb.mono rHB1.out.size))
      have rHG2 := Lib.hid (grown_call rHG1.out hb)
      clear hb rHS1 rHX1 rHB1 rHG1 rHT2
      go_wp2_with (refine wpList_store_row rfl 85 (.tmp 1) (.tmp 40) rfl (w.heap.size) 85 _ #[.string B, .int .i64 ((rs2).p : Nat), .int .i64 ((rs2).e : Nat), .int .i64 ((rs2).o : Nat), .int .i64 n2, .string rq2, .bool yb] rfl rfl rHR2.out (size_st _ _ _ _ _ _ _) rfl (by simp [Value.oneCell']) ?_; have rHI2 := Lib.hid (box_set rHR2.out #[.string B, .int .i64 ((rs2).p : Nat), .int .i64 ((rs2).e : Nat), .int .i64 ((rs2).o : Nat), .int .i64 n2, .string rq2, .bool yb]); have rHY2 := Lib.hid (box_off rHU2.out (show wr.heap.size ≠ w.heap.size by omega) #[.string B, .int .i64 ((rs2).p : Nat), .int .i64 ((rs2).e : Nat), .int .i64 ((rs2).o : Nat), .int .i64 n2, .string rq2, .bool yb]); have rHC2 := Lib.hid (below_putRow rHD2.out (show w.heap.size ≤ w.heap.size by omega) #[.string B, .int .i64 ((rs2).p : Nat), .int .i64 ((rs2).e : Nat), .int .i64 ((rs2).o : Nat), .int .i64 n2, .string rq2, .bool yb]); have rHH2 := Lib.hid (grown_row rHG2.out #[.string B, .int .i64 ((rs2).p : Nat), .int .i64 ((rs2).e : Nat), .int .i64 ((rs2).o : Nat), .int .i64 n2, .string rq2, .bool yb]); clear rHG2; clear rHR2 rHU2 rHD2 ; generalize rw2.setRow (w.heap.size) #[.string B, .int .i64 ((rs2).p : Nat), .int .i64 ((rs2).e : Nat), .int .i64 ((rs2).o : Nat), .int .i64 n2, .string rq2, .bool yb] = ru2 at *; obtain ⟨d0, d1, d2, d3, d4, d5, d6⟩ := stcell (s := rs2) rHI2.out; have xo := rHY2.out.cell 1; simp only [List.getElem?_toArray, List.getElem?_cons_zero, List.getElem?_cons_succ] at xo; have xf := rHY2.out.frozen 1; have rHS2 := Lib.hid (rHI2.out.far (p := ⟨wr.heap.size, 1, none⟩) (show w.heap.size ≠ wr.heap.size by omega) (.string (rq2))); have rHX2 : Hid (Box (ru2.setCell ⟨wr.heap.size, 1, none⟩ (.string (rq2))) (wr.heap.size) 67 #[.string (rq1), .string (rq2), .int .i64 0, .int .i64 0, .int .i64 0, .int .i64 0, .int .i64 0, .int .i64 0, .int .i64 0, .int .i64 0, .int .i64 0, .int .i64 0]) := Lib.hid (rHY2.out.put 1 (.string (rq2))); have rHB2 := Lib.hid (rHC2.out.setCell (p := ⟨wr.heap.size, 1, none⟩) (show w.heap.size ≤ wr.heap.size by omega) (.string (rq2))); have rHG2 := Lib.hid (grown_put rHH2.out (show wr.heap.size ≤ wr.heap.size by omega) 1 (.string (rq2))); obtain ⟨e0, e1, e2, e3, e4, e5, e6⟩ := stcell (s := rs2) rHS2.out)
      clear d0 d1 d2 d3 d4 d5 d6 xo xf e0 e1 e2 e3 e4 e5 e6 rHI2 rHY2 rHC2  rHH2
      generalize ru2.setCell ⟨wr.heap.size, 1, none⟩ (.string (rq2)) = rV2 at *
      refine (rHT3.out _).mono ?_
      rintro e rw3 ⟨rfl, hb⟩
      have rHR3 := Lib.hid (rHS2.out.below hb rHS2.out.lt)
      have rHU3 := Lib.hid (rHX2.out.below hb rHX2.out.lt)
      have rHD3 := Lib.hid (rHB2.out.trans (hb.mono rHB2.out.size))
      have rHG3 := Lib.hid (grown_call rHG2.out hb)
      clear hb rHS2 rHX2 rHB2 rHG2 rHT3
      go_wp2_with (refine wpList_store_row rfl 85 (.tmp 1) (.tmp 45) rfl (w.heap.size) 85 _ #[.string B, .int .i64 ((rs3).p : Nat), .int .i64 ((rs3).e : Nat), .int .i64 ((rs3).o : Nat), .int .i64 (rq3 : Nat), .string rq2, .bool yb] rfl rfl rHR3.out (size_st _ _ _ _ _ _ _) rfl (by simp [Value.oneCell']) ?_; have rHI3 := Lib.hid (box_set rHR3.out #[.string B, .int .i64 ((rs3).p : Nat), .int .i64 ((rs3).e : Nat), .int .i64 ((rs3).o : Nat), .int .i64 (rq3 : Nat), .string rq2, .bool yb]); have rHY3 := Lib.hid (box_off rHU3.out (show wr.heap.size ≠ w.heap.size by omega) #[.string B, .int .i64 ((rs3).p : Nat), .int .i64 ((rs3).e : Nat), .int .i64 ((rs3).o : Nat), .int .i64 (rq3 : Nat), .string rq2, .bool yb]); have rHC3 := Lib.hid (below_putRow rHD3.out (show w.heap.size ≤ w.heap.size by omega) #[.string B, .int .i64 ((rs3).p : Nat), .int .i64 ((rs3).e : Nat), .int .i64 ((rs3).o : Nat), .int .i64 (rq3 : Nat), .string rq2, .bool yb]); have rHH3 := Lib.hid (grown_row rHG3.out #[.string B, .int .i64 ((rs3).p : Nat), .int .i64 ((rs3).e : Nat), .int .i64 ((rs3).o : Nat), .int .i64 (rq3 : Nat), .string rq2, .bool yb]); clear rHG3; clear rHR3 rHU3 rHD3 ; generalize rw3.setRow (w.heap.size) #[.string B, .int .i64 ((rs3).p : Nat), .int .i64 ((rs3).e : Nat), .int .i64 ((rs3).o : Nat), .int .i64 (rq3 : Nat), .string rq2, .bool yb] = ru3 at *; obtain ⟨d0, d1, d2, d3, d4, d5, d6⟩ := stcell (s := rs3) rHI3.out; have xo := rHY3.out.cell 2; simp only [List.getElem?_toArray, List.getElem?_cons_zero, List.getElem?_cons_succ] at xo; have xf := rHY3.out.frozen 2; have rHS3 := Lib.hid (rHI3.out.far (p := ⟨wr.heap.size, 2, none⟩) (show w.heap.size ≠ wr.heap.size by omega) (.int .i64 (rq3 : Nat))); have rHX3 : Hid (Box (ru3.setCell ⟨wr.heap.size, 2, none⟩ (.int .i64 (rq3 : Nat))) (wr.heap.size) 67 #[.string (rq1), .string (rq2), .int .i64 (rq3 : Nat), .int .i64 0, .int .i64 0, .int .i64 0, .int .i64 0, .int .i64 0, .int .i64 0, .int .i64 0, .int .i64 0, .int .i64 0]) := Lib.hid (rHY3.out.put 2 (.int .i64 (rq3 : Nat))); have rHB3 := Lib.hid (rHC3.out.setCell (p := ⟨wr.heap.size, 2, none⟩) (show w.heap.size ≤ wr.heap.size by omega) (.int .i64 (rq3 : Nat))); have rHG3 := Lib.hid (grown_put rHH3.out (show wr.heap.size ≤ wr.heap.size by omega) 2 (.int .i64 (rq3 : Nat))); obtain ⟨e0, e1, e2, e3, e4, e5, e6⟩ := stcell (s := rs3) rHS3.out)
      clear d0 d1 d2 d3 d4 d5 d6 xo xf e0 e1 e2 e3 e4 e5 e6 rHI3 rHY3 rHC3  rHH3
      generalize ru3.setCell ⟨wr.heap.size, 2, none⟩ (.int .i64 (rq3 : Nat)) = rV3 at *
      refine (HPa.out _).mono ?_
      rintro e wa ⟨⟨na, rfl⟩, hb⟩
      have hsa := hb.size
      have HSa := Lib.hid (((rHS3.out.below hb rHS3.out.lt).alloc (.cells #[.string B, .int .i64 ((t4).p : Nat), .int .i64 ((t4).e : Nat), .int .i64 ((t4).o : Nat), .int .i64 na, .string rq2, .bool yb] 85)).alloc (.cells #[.int .i64 pa.r, .int .i64 pa.b, .int .i64 pa.f, .int .i64 pa.c] 65))
      have HXa := Lib.hid (((rHX3.out.below hb rHX3.out.lt).alloc (.cells #[.string B, .int .i64 ((t4).p : Nat), .int .i64 ((t4).e : Nat), .int .i64 ((t4).o : Nat), .int .i64 na, .string rq2, .bool yb] 85)).alloc (.cells #[.int .i64 pa.r, .int .i64 pa.b, .int .i64 pa.f, .int .i64 pa.c] 65))
      have hbw := rHB3.out.trans (hb.mono rHB3.out.size)
      have HBa := Lib.hid ((hbw.alloc hbw.size (.cells #[.string B, .int .i64 ((t4).p : Nat), .int .i64 ((t4).e : Nat), .int .i64 ((t4).o : Nat), .int .i64 na, .string rq2, .bool yb] 85)).alloc (by have := hbw.size; simp; omega) (.cells #[.int .i64 pa.r, .int .i64 pa.b, .int .i64 pa.f, .int .i64 pa.c] 65))
      have HGa := Lib.hid (grown_al (grown_al (grown_call rHG3.out hb) (.cells #[.string B, .int .i64 ((t4).p : Nat), .int .i64 ((t4).e : Nat), .int .i64 ((t4).o : Nat), .int .i64 na, .string rq2, .bool yb] 85)) (.cells #[.int .i64 pa.r, .int .i64 pa.b, .int .i64 pa.f, .int .i64 pa.c] 65))
      have H8 := Lib.hid ((Box.new wa 85 #[.string B, .int .i64 ((t4).p : Nat), .int .i64 ((t4).e : Nat), .int .i64 ((t4).o : Nat), .int .i64 na, .string rq2, .bool yb]).alloc (.cells #[.int .i64 pa.r, .int .i64 pa.b, .int .i64 pa.f, .int .i64 pa.c] 65))
      have H9 := Lib.hid (box_new2 wa (.cells #[.string B, .int .i64 ((t4).p : Nat), .int .i64 ((t4).e : Nat), .int .i64 ((t4).o : Nat), .int .i64 na, .string rq2, .bool yb] 85) 65 #[.int .i64 pa.r, .int .i64 pa.b, .int .i64 pa.f, .int .i64 pa.c])
      have hza : w.heap.size + 4 < wa.heap.size := by have := rHX3.out.lt; omega
      have hzx : wr.heap.size < wa.heap.size := by have := rHX3.out.lt; omega
      clear hb hbw hsa rHS3 rHX3 rHB3 rHG3 HPa
      go_upto_region 19 with fail
      generalize (wa.alloc (.cells #[.string B, .int .i64 ((t4).p : Nat), .int .i64 ((t4).e : Nat), .int .i64 ((t4).o : Nat), .int .i64 na, .string rq2, .bool yb] 85)).alloc (.cells #[.int .i64 pa.r, .int .i64 pa.b, .int .i64 pa.f, .int .i64 pa.c] 65) = Va at *
      obtain ⟨e0, e1, e2, e3, e4, e5, e6⟩ := stcell (s := t4) H8.out
      go_wp2_with fail
      refine (HPb.out na _).mono ?_
      rintro e wb ⟨⟨nb, rfl⟩, hb⟩
      clear e0 e1 e2 e3 e4 e5 e6
      have HSb := Lib.hid (((HSa.out.below hb HSa.out.lt).alloc (.cells #[.string B, .int .i64 ((t5).p : Nat), .int .i64 ((t5).e : Nat), .int .i64 ((t5).o : Nat), .int .i64 nb, .string rq2, .bool yb] 85)).alloc (.cells #[.int .i64 pb.r, .int .i64 pb.b, .int .i64 pb.f, .int .i64 pb.c] 65))
      have HXb := Lib.hid (((HXa.out.below hb HXa.out.lt).alloc (.cells #[.string B, .int .i64 ((t5).p : Nat), .int .i64 ((t5).e : Nat), .int .i64 ((t5).o : Nat), .int .i64 nb, .string rq2, .bool yb] 85)).alloc (.cells #[.int .i64 pb.r, .int .i64 pb.b, .int .i64 pb.f, .int .i64 pb.c] 65))
      have hbw := HBa.out.trans (hb.mono HBa.out.size)
      have HBb := Lib.hid ((hbw.alloc hbw.size (.cells #[.string B, .int .i64 ((t5).p : Nat), .int .i64 ((t5).e : Nat), .int .i64 ((t5).o : Nat), .int .i64 nb, .string rq2, .bool yb] 85)).alloc (by have := hbw.size; simp; omega) (.cells #[.int .i64 pb.r, .int .i64 pb.b, .int .i64 pb.f, .int .i64 pb.c] 65))
      have HGb := Lib.hid (grown_al (grown_al (grown_call HGa.out hb) (.cells #[.string B, .int .i64 ((t5).p : Nat), .int .i64 ((t5).e : Nat), .int .i64 ((t5).o : Nat), .int .i64 nb, .string rq2, .bool yb] 85)) (.cells #[.int .i64 pb.r, .int .i64 pb.b, .int .i64 pb.f, .int .i64 pb.c] 65))
      have H9b := Lib.hid (((H9.out.below hb H9.out.lt).alloc (.cells #[.string B, .int .i64 ((t5).p : Nat), .int .i64 ((t5).e : Nat), .int .i64 ((t5).o : Nat), .int .i64 nb, .string rq2, .bool yb] 85)).alloc (.cells #[.int .i64 pb.r, .int .i64 pb.b, .int .i64 pb.f, .int .i64 pb.c] 65))
      have H10 := Lib.hid ((Box.new wb 85 #[.string B, .int .i64 ((t5).p : Nat), .int .i64 ((t5).e : Nat), .int .i64 ((t5).o : Nat), .int .i64 nb, .string rq2, .bool yb]).alloc (.cells #[.int .i64 pb.r, .int .i64 pb.b, .int .i64 pb.f, .int .i64 pb.c] 65))
      have H11 := Lib.hid (box_new2 wb (.cells #[.string B, .int .i64 ((t5).p : Nat), .int .i64 ((t5).e : Nat), .int .i64 ((t5).o : Nat), .int .i64 nb, .string rq2, .bool yb] 85) 65 #[.int .i64 pb.r, .int .i64 pb.b, .int .i64 pb.f, .int .i64 pb.c])
      have hzb : wa.heap.size + 1 < wb.heap.size := by have := H9.out.lt; have := hb.size; omega
      clear hb hbw HSa HXa HBa HGa H8 H9 HPb
      go_upto_region 20 with fail
      generalize (wb.alloc (.cells #[.string B, .int .i64 ((t5).p : Nat), .int .i64 ((t5).e : Nat), .int .i64 ((t5).o : Nat), .int .i64 nb, .string rq2, .bool yb] 85)).alloc (.cells #[.int .i64 pb.r, .int .i64 pb.b, .int .i64 pb.f, .int .i64 pb.c] 65) = Vb at *
      obtain ⟨e0, e1, e2, e3, e4, e5, e6⟩ := stcell (s := t5) H10.out
      have HSc := Lib.hid (box_set HSb.out #[.string B, .int .i64 ((t5).p : Nat), .int .i64 ((t5).e : Nat), .int .i64 ((t5).o : Nat), .int .i64 nb, .string rq2, .bool yb])
      have HXc := Lib.hid (box_off HXb.out (show wr.heap.size ≠ w.heap.size by omega) #[.string B, .int .i64 ((t5).p : Nat), .int .i64 ((t5).e : Nat), .int .i64 ((t5).o : Nat), .int .i64 nb, .string rq2, .bool yb])
      have HBc := Lib.hid (below_putRow HBb.out (Nat.le_refl _) #[.string B, .int .i64 ((t5).p : Nat), .int .i64 ((t5).e : Nat), .int .i64 ((t5).o : Nat), .int .i64 nb, .string rq2, .bool yb])
      have HGc := Lib.hid (grown_row HGb.out #[.string B, .int .i64 ((t5).p : Nat), .int .i64 ((t5).e : Nat), .int .i64 ((t5).o : Nat), .int .i64 nb, .string rq2, .bool yb])
      have H9c := Lib.hid (box_off H9b.out (show wa.heap.size + 1 ≠ w.heap.size by omega) #[.string B, .int .i64 ((t5).p : Nat), .int .i64 ((t5).e : Nat), .int .i64 ((t5).o : Nat), .int .i64 nb, .string rq2, .bool yb])
      have H11c := Lib.hid (box_off H11.out (show wb.heap.size + 1 ≠ w.heap.size by omega) #[.string B, .int .i64 ((t5).p : Nat), .int .i64 ((t5).e : Nat), .int .i64 ((t5).o : Nat), .int .i64 nb, .string rq2, .bool yb])
      go_upto_region 21 with (refine wpList_store_row rfl 85 (.tmp 1) (.tmp 59) rfl (w.heap.size) 85 _ #[.string B, .int .i64 ((t5).p : Nat), .int .i64 ((t5).e : Nat), .int .i64 ((t5).o : Nat), .int .i64 nb, .string rq2, .bool yb] rfl rfl HSb.out (size_st _ _ _ _ _ _ _) rfl (by simp [Value.oneCell']) ?_)
      clear e0 e1 e2 e3 e4 e5 e6 HSb HXb HBb HGb H9b H10 H11
      generalize Vb.setRow (w.heap.size) #[.string B, .int .i64 ((t5).p : Nat), .int .i64 ((t5).e : Nat), .int .i64 ((t5).o : Nat), .int .i64 nb, .string rq2, .bool yb] = Vc at *
      have p0 := H9c.out.cell 0
      have p1 := H9c.out.cell 1
      have p2 := H9c.out.cell 2
      have p3 := H9c.out.cell 3
      simp only [List.getElem?_toArray, List.getElem?_cons_zero, List.getElem?_cons_succ] at p0 p1 p2 p3
      have HSd := Lib.hid (box_off HSc.out (show w.heap.size ≠ wr.heap.size by omega) #[.string rq1, .string rq2, .int .i64 (rq3 : Nat), .int .i64 pa.r, .int .i64 pa.b, .int .i64 pa.f, .int .i64 pa.c, .int .i64 0, .int .i64 0, .int .i64 0, .int .i64 0, .int .i64 0])
      have HXd := Lib.hid (box_set HXc.out #[.string rq1, .string rq2, .int .i64 (rq3 : Nat), .int .i64 pa.r, .int .i64 pa.b, .int .i64 pa.f, .int .i64 pa.c, .int .i64 0, .int .i64 0, .int .i64 0, .int .i64 0, .int .i64 0])
      have HBd := Lib.hid (below_putRow HBc.out (show w.heap.size ≤ wr.heap.size by omega) #[.string rq1, .string rq2, .int .i64 (rq3 : Nat), .int .i64 pa.r, .int .i64 pa.b, .int .i64 pa.f, .int .i64 pa.c, .int .i64 0, .int .i64 0, .int .i64 0, .int .i64 0, .int .i64 0])
      have HGd := Lib.hid (grown_part HGc.out (Nat.le_refl _) #[.string rq1, .string rq2, .int .i64 (rq3 : Nat), .int .i64 pa.r, .int .i64 pa.b, .int .i64 pa.f, .int .i64 pa.c, .int .i64 0, .int .i64 0, .int .i64 0, .int .i64 0, .int .i64 0])
      have H11d := Lib.hid (box_off H11c.out (show wb.heap.size + 1 ≠ wr.heap.size by omega) #[.string rq1, .string rq2, .int .i64 (rq3 : Nat), .int .i64 pa.r, .int .i64 pa.b, .int .i64 pa.f, .int .i64 pa.c, .int .i64 0, .int .i64 0, .int .i64 0, .int .i64 0, .int .i64 0])
      go_upto_region 22 with (refine wpList_store_part rfl 65 (.tmp 61) (.tmp 60) rfl (wr.heap.size) 3 67 _ #[.int .i64 pa.r, .int .i64 pa.b, .int .i64 pa.f, .int .i64 pa.c] #[.string rq1, .string rq2, .int .i64 (rq3 : Nat), .int .i64 pa.r, .int .i64 pa.b, .int .i64 pa.f, .int .i64 pa.c, .int .i64 0, .int .i64 0, .int .i64 0, .int .i64 0, .int .i64 0] rfl rfl HXc.out (by show (Try.prog.info? 65).map (·.size) = some 4; kernel_rfl) (Nat.le_of_ble_eq_true rfl) (by simp [Value.oneCell']) rfl ?_)
      clear p0 p1 p2 p3 HSc HXc HBc HGc H9c
      generalize Vc.setRow (wr.heap.size) #[.string rq1, .string rq2, .int .i64 (rq3 : Nat), .int .i64 pa.r, .int .i64 pa.b, .int .i64 pa.f, .int .i64 pa.c, .int .i64 0, .int .i64 0, .int .i64 0, .int .i64 0, .int .i64 0] = Vd at *
      have p0 := H11d.out.cell 0
      have p1 := H11d.out.cell 1
      have p2 := H11d.out.cell 2
      have p3 := H11d.out.cell 3
      simp only [List.getElem?_toArray, List.getElem?_cons_zero, List.getElem?_cons_succ] at p0 p1 p2 p3
      clear H11c
      have HSe := Lib.hid (box_off HSd.out (show w.heap.size ≠ wr.heap.size by omega) #[.string rq1, .string rq2, .int .i64 (rq3 : Nat), .int .i64 pa.r, .int .i64 pa.b, .int .i64 pa.f, .int .i64 pa.c, .int .i64 pb.r, .int .i64 pb.b, .int .i64 pb.f, .int .i64 pb.c, .int .i64 0])
      have HXe := Lib.hid (box_set HXd.out #[.string rq1, .string rq2, .int .i64 (rq3 : Nat), .int .i64 pa.r, .int .i64 pa.b, .int .i64 pa.f, .int .i64 pa.c, .int .i64 pb.r, .int .i64 pb.b, .int .i64 pb.f, .int .i64 pb.c, .int .i64 0])
      have HBe := Lib.hid (below_putRow HBd.out (show w.heap.size ≤ wr.heap.size by omega) #[.string rq1, .string rq2, .int .i64 (rq3 : Nat), .int .i64 pa.r, .int .i64 pa.b, .int .i64 pa.f, .int .i64 pa.c, .int .i64 pb.r, .int .i64 pb.b, .int .i64 pb.f, .int .i64 pb.c, .int .i64 0])
      have HGe := Lib.hid (grown_part HGd.out (Nat.le_refl _) #[.string rq1, .string rq2, .int .i64 (rq3 : Nat), .int .i64 pa.r, .int .i64 pa.b, .int .i64 pa.f, .int .i64 pa.c, .int .i64 pb.r, .int .i64 pb.b, .int .i64 pb.f, .int .i64 pb.c, .int .i64 0])
      go_upto_region 23 with (refine wpList_store_part rfl 65 (.tmp 63) (.tmp 62) rfl (wr.heap.size) 7 67 _ #[.int .i64 pb.r, .int .i64 pb.b, .int .i64 pb.f, .int .i64 pb.c] #[.string rq1, .string rq2, .int .i64 (rq3 : Nat), .int .i64 pa.r, .int .i64 pa.b, .int .i64 pa.f, .int .i64 pa.c, .int .i64 pb.r, .int .i64 pb.b, .int .i64 pb.f, .int .i64 pb.c, .int .i64 0] rfl rfl HXd.out (by show (Try.prog.info? 65).map (·.size) = some 4; kernel_rfl) (Nat.le_of_ble_eq_true rfl) (by simp [Value.oneCell']) rfl ?_)
      clear p0 p1 p2 p3 HSd HXd HBd HGd H11d
      generalize Vd.setRow (wr.heap.size) #[.string rq1, .string rq2, .int .i64 (rq3 : Nat), .int .i64 pa.r, .int .i64 pa.b, .int .i64 pa.f, .int .i64 pa.c, .int .i64 pb.r, .int .i64 pb.b, .int .i64 pb.f, .int .i64 pb.c, .int .i64 0] = Ve at *
      obtain ⟨e0, e1, e2, e3, e4, e5, e6⟩ := stcell (s := t5) HSe.out
      go_wp2_with fail
      refine (HT6.out nb _).mono ?_
      rintro e wf ⟨rfl, hb⟩
      clear e0 e1 e2 e3 e4 e5 e6
      have HSf0 := Lib.hid (HSe.out.below hb HSe.out.lt)
      have HXf := Lib.hid (box_off (HXe.out.below hb HXe.out.lt) (show wr.heap.size ≠ w.heap.size by omega) #[.string B, .int .i64 ((t6).p : Nat), .int .i64 ((t6).e : Nat), .int .i64 ((t6).o : Nat), .int .i64 (q6 : Nat), .string rq2, .bool yb])
      have HSf := Lib.hid (box_set HSf0.out #[.string B, .int .i64 ((t6).p : Nat), .int .i64 ((t6).e : Nat), .int .i64 ((t6).o : Nat), .int .i64 (q6 : Nat), .string rq2, .bool yb])
      have HBf := Lib.hid (below_putRow (HBe.out.trans (hb.mono HBe.out.size)) (Nat.le_refl _) #[.string B, .int .i64 ((t6).p : Nat), .int .i64 ((t6).e : Nat), .int .i64 ((t6).o : Nat), .int .i64 (q6 : Nat), .string rq2, .bool yb])
      have HGf := Lib.hid (grown_row (grown_call HGe.out hb) #[.string B, .int .i64 ((t6).p : Nat), .int .i64 ((t6).e : Nat), .int .i64 ((t6).o : Nat), .int .i64 (q6 : Nat), .string rq2, .bool yb])
      clear hb HSe HXe HBe HGe HT6
      go_upto_region 24 with (refine wpList_store_row rfl 85 (.tmp 1) (.tmp 65) rfl (w.heap.size) 85 _ #[.string B, .int .i64 ((t6).p : Nat), .int .i64 ((t6).e : Nat), .int .i64 ((t6).o : Nat), .int .i64 (q6 : Nat), .string rq2, .bool yb] rfl rfl HSf0.out (size_st _ _ _ _ _ _ _) rfl (by simp [Value.oneCell']) ?_)
      generalize wf.setRow (w.heap.size) #[.string B, .int .i64 ((t6).p : Nat), .int .i64 ((t6).e : Nat), .int .i64 ((t6).o : Nat), .int .i64 (q6 : Nat), .string rq2, .bool yb] = Vf at *
      clear HSf0
      have e4 := HSf.out.cell 4
      have xo := HXf.out.cell 11
      simp only [List.getElem?_toArray, List.getElem?_cons_zero, List.getElem?_cons_succ] at xo e4
      have xf := HXf.out.frozen 11
      have HSg := Lib.hid (HSf.out.far (p := ⟨wr.heap.size, 11, none⟩) (show w.heap.size ≠ wr.heap.size by omega) (.int .i64 (q6 : Nat)))
      have HXg : Hid (Box (Vf.setCell ⟨wr.heap.size, 11, none⟩ (.int .i64 (q6 : Nat))) (wr.heap.size) 67 #[.string rq1, .string rq2, .int .i64 (rq3 : Nat), .int .i64 pa.r, .int .i64 pa.b, .int .i64 pa.f, .int .i64 pa.c, .int .i64 pb.r, .int .i64 pb.b, .int .i64 pb.f, .int .i64 pb.c, .int .i64 (q6 : Nat)]) := Lib.hid (HXf.out.put 11 (.int .i64 (q6 : Nat)))
      have HBg := Lib.hid (HBf.out.setCell (p := ⟨wr.heap.size, 11, none⟩) (show w.heap.size ≤ wr.heap.size by omega) (.int .i64 (q6 : Nat)))
      have HGg := Lib.hid (grown_put HGf.out (Nat.le_refl _) 11 (.int .i64 (q6 : Nat)))
      go_upto_region 25 with fail
      clear e4 xo xf HSf HXf HBf HGf
      generalize Vf.setCell ⟨wr.heap.size, 11, none⟩ (.int .i64 (q6 : Nat)) = Vg at *
      have HL2 : Hid (Rl w Vg B t6 (q6 : Nat) rq2 yb q1 (q2 : Nat) A k c' xs) := Lib.hid (rl_grown HL.out HGg.out HSg.out HBg.out)
      clear HL HSg HBg HGg
      have d2 : Vg.cell? ⟨w.heap.size + 3, 2, none⟩ = some (.slice A k c') := HL2.out.df.cell 2
      have x0 := HXg.out.cell 0
      have x1 := HXg.out.cell 1
      have x2 := HXg.out.cell 2
      have x3 := HXg.out.cell 3
      have x4 := HXg.out.cell 4
      have x5 := HXg.out.cell 5
      have x6 := HXg.out.cell 6
      have x7 := HXg.out.cell 7
      have x8 := HXg.out.cell 8
      have x9 := HXg.out.cell 9
      have x10 := HXg.out.cell 10
      have x11 := HXg.out.cell 11
      simp only [List.getElem?_toArray, List.getElem?_cons_zero, List.getElem?_cons_succ] at x0 x1 x2 x3 x4 x5 x6 x7 x8 x9 x10 x11
      go_wp2_with (at_builtin; refine wpList_append_own_at _ rfl (.tmp 70) (.tmp 72) 22 rfl w.heap.size 67 i0 zstep 12 112 Try.underlying22 hi0 hz0 hz1 hz2 rfl (by decide) _ k _ rfl (HL2.out.own.alloc _) ⟨Vg.heap.size, 0, none⟩ 1 1 (⟨rq1, rq2, (rq3 : Nat), pa, pb, (q6 : Nat)⟩ : Stp).cells rfl (by rfl) (new_cells Vg (⟨rq1, rq2, (rq3 : Nat), pa, pb, (q6 : Nat)⟩ : Stp)) (cells_one _) (by unfold maxLen; omega) (by omega) (by have := HL2.out.bel.size; simp; omega) ?_; intro v2 w2 hown2 hg2 hn2 ha2; rw [← cellsS_snoc] at hown2; obtain ⟨A2, c2, rfl, hc2⟩ := own_form12 hown2; have HM := Lib.hid (app_rl HL2.out hg2 hown2); clear hown2 hg2 hn2 ha2; have d2 := HM.out.1.cell 2; have f2 := HM.out.1.frozen 2; simp only [List.getElem?_toArray, List.getElem?_cons_zero, List.getElem?_cons_succ] at d2)
      go_roundw
      case rel => exact ⟨k + 1, by go_num, by omega, _, _, _, A2, c2, Lib.hid (by rw [HSn.out.1, HSn.out.2, HQs.out.1, HQs.out.2]; exact HM.out.2)⟩
      case measure => simp only [intOf]; omega
    · obtain rfl : k = N := by omega
      have HLs := Lib.hid HL.out.st
      have HLy := Lib.hid HL.out.z2
      have HLz := Lib.hid HL.out.z3
      have HLx := Lib.hid HL.out.df
      have HLb := Lib.hid HL.out.bel
      have HLo := Lib.hid HL.out.own
      clear HL
      obtain ⟨xs, hxs⟩ : ∃ xs, xs = stepsQ B.data.toList k s3 := ⟨_, rfl⟩
      obtain ⟨t, ht⟩ : ∃ z, z = stepsS B.data.toList k s3 := ⟨_, rfl⟩
      rw [← ht] at HLs
      rw [← hxs] at HLo
      rw [← ht, ← hxs] at HF
      clear hxs ht
      go_wp2_with fail
      have z0 : ∀ v, Box v (w.heap.size) 85 #[.string B, .int .i64 ((t).p : Nat), .int .i64 ((t).e : Nat), .int .i64 ((t).o : Nat), .int .i64 n2, .string S2, .bool yb] ∧ Box v (w.heap.size + 3) 24 #[.string q1, .int .i64 (q2 : Nat), .slice A k c'] → v.cell? ⟨w.heap.size, 0, none⟩ = some (.string B) := fun v h => h.1.cell 0
      have z1 : ∀ v, Box v (w.heap.size) 85 #[.string B, .int .i64 ((t).p : Nat), .int .i64 ((t).e : Nat), .int .i64 ((t).o : Nat), .int .i64 n2, .string S2, .bool yb] ∧ Box v (w.heap.size + 3) 24 #[.string q1, .int .i64 (q2 : Nat), .slice A k c'] → v.cell? ⟨w.heap.size, 1, none⟩ = some (.int .i64 ((t).p : Nat)) := fun v h => h.1.cell 1
      have z2 : ∀ v, Box v (w.heap.size) 85 #[.string B, .int .i64 ((t).p : Nat), .int .i64 ((t).e : Nat), .int .i64 ((t).o : Nat), .int .i64 n2, .string S2, .bool yb] ∧ Box v (w.heap.size + 3) 24 #[.string q1, .int .i64 (q2 : Nat), .slice A k c'] → v.cell? ⟨w.heap.size, 2, none⟩ = some (.int .i64 ((t).e : Nat)) := fun v h => h.1.cell 2
      have z3 : ∀ v, Box v (w.heap.size) 85 #[.string B, .int .i64 ((t).p : Nat), .int .i64 ((t).e : Nat), .int .i64 ((t).o : Nat), .int .i64 n2, .string S2, .bool yb] ∧ Box v (w.heap.size + 3) 24 #[.string q1, .int .i64 (q2 : Nat), .slice A k c'] → v.cell? ⟨w.heap.size, 3, none⟩ = some (.int .i64 ((t).o : Nat)) := fun v h => h.1.cell 3
      have z4 : ∀ v, Box v (w.heap.size) 85 #[.string B, .int .i64 ((t).p : Nat), .int .i64 ((t).e : Nat), .int .i64 ((t).o : Nat), .int .i64 n2, .string S2, .bool yb] ∧ Box v (w.heap.size + 3) 24 #[.string q1, .int .i64 (q2 : Nat), .slice A k c'] → v.cell? ⟨w.heap.size, 4, none⟩ = some (.int .i64 n2) := fun v h => h.1.cell 4
      have z5 : ∀ v, Box v (w.heap.size) 85 #[.string B, .int .i64 ((t).p : Nat), .int .i64 ((t).e : Nat), .int .i64 ((t).o : Nat), .int .i64 n2, .string S2, .bool yb] ∧ Box v (w.heap.size + 3) 24 #[.string q1, .int .i64 (q2 : Nat), .slice A k c'] → v.cell? ⟨w.heap.size, 5, none⟩ = some (.string S2) := fun v h => h.1.cell 5
      have z6 : ∀ v, Box v (w.heap.size) 85 #[.string B, .int .i64 ((t).p : Nat), .int .i64 ((t).e : Nat), .int .i64 ((t).o : Nat), .int .i64 n2, .string S2, .bool yb] ∧ Box v (w.heap.size + 3) 24 #[.string q1, .int .i64 (q2 : Nat), .slice A k c'] → v.cell? ⟨w.heap.size, 6, none⟩ = some (.bool yb) := fun v h => h.1.cell 6
      have y0 : ∀ v, Box v (w.heap.size) 85 #[.string B, .int .i64 ((t).p : Nat), .int .i64 ((t).e : Nat), .int .i64 ((t).o : Nat), .int .i64 n2, .string S2, .bool yb] ∧ Box v (w.heap.size + 3) 24 #[.string q1, .int .i64 (q2 : Nat), .slice A k c'] → v.cell? ⟨w.heap.size + 3, 0, none⟩ = some (.string q1) := fun v h => h.2.cell 0
      have y1 : ∀ v, Box v (w.heap.size) 85 #[.string B, .int .i64 ((t).p : Nat), .int .i64 ((t).e : Nat), .int .i64 ((t).o : Nat), .int .i64 n2, .string S2, .bool yb] ∧ Box v (w.heap.size + 3) 24 #[.string q1, .int .i64 (q2 : Nat), .slice A k c'] → v.cell? ⟨w.heap.size + 3, 1, none⟩ = some (.int .i64 (q2 : Nat)) := fun v h => h.2.cell 1
      have y2 : ∀ v, Box v (w.heap.size) 85 #[.string B, .int .i64 ((t).p : Nat), .int .i64 ((t).e : Nat), .int .i64 ((t).o : Nat), .int .i64 n2, .string S2, .bool yb] ∧ Box v (w.heap.size + 3) 24 #[.string q1, .int .i64 (q2 : Nat), .slice A k c'] → v.cell? ⟨w.heap.size + 3, 2, none⟩ = some (.slice A k c') := fun v h => h.2.cell 2
      have hs := box_off (HLz.out.drewN 1) (show w.heap.size + 2 ≠ w.heap.size + 1 by omega) #[.string B, .int .i64 ((t).p : Nat), .int .i64 ((t).e : Nat), .int .i64 ((t).o : Nat), .int .i64 n2, .string S2, .bool yb]
      have hA := Lib.hid (⟨HLs.out.drewN 1, HLx.out.drewN 1⟩ : (fun v => Box v (w.heap.size) 85 #[.string B, .int .i64 ((t).p : Nat), .int .i64 ((t).e : Nat), .int .i64 ((t).o : Nat), .int .i64 n2, .string S2, .bool yb] ∧ Box v (w.heap.size + 3) 24 #[.string q1, .int .i64 (q2 : Nat), .slice A k c']) (wr.drewN 1))
      refine wp_region_held_drew (S := fun v => Box v (w.heap.size) 85 #[.string B, .int .i64 ((t).p : Nat), .int .i64 ((t).e : Nat), .int .i64 ((t).o : Nat), .int .i64 n2, .string S2, .bool yb] ∧ Box v (w.heap.size + 3) 24 #[.string q1, .int .i64 (q2 : Nat), .slice A k c']) (by kernel_rfl) (hA.out) (fun hHeld => ?_)
      refine wpAnyH_take (i := 0) (oi := ⟨some 75, _, _, _, _, _⟩) (v := ?_) rfl (by kernel_rfl) (by kernel_rfl) (by kernel_rfl) (fun _ _ _ h => h) (Or.inl ⟨by rfl, ?_⟩) (by assumption) ?_
      rotate_left
      · (intro u hu; (try dsimp only at hu); go_simp; (try with_reducible rfl))
      (try simp only [Act.put, List.setIfInBounds_toArray, List.set_cons_zero, List.set_cons_succ])
      refine wpAnyH_take (i := 1) (oi := ⟨some 76, _, _, _, _, _⟩) (v := ?_) rfl (by kernel_rfl) (by kernel_rfl) (by kernel_rfl) (fun _ _ _ h => h) (Or.inl ⟨by rfl, ?_⟩) (by assumption) ?_
      rotate_left
      · (intro u hu; (try dsimp only at hu); go_simp; (try with_reducible rfl))
      (try simp only [Act.put, List.setIfInBounds_toArray, List.set_cons_zero, List.set_cons_succ])
      refine wpAnyH_ready (rs := [2]) (by decide +kernel) (by simp) ?_
      refine AllReadyH.cons (o := ⟨none, _, _, _, _, _⟩) rfl (fun K hK => ?_) AllReadyH.nil
      rw [if_pos (by rfl)]
      refine oper_store 85 _ _ rfl (w.heap.size + 1) 85 _ #[.string B, .int .i64 ((t).p : Nat), .int .i64 ((t).e : Nat), .int .i64 ((t).o : Nat), .int .i64 n2, .string S2, .bool yb] rfl rfl (HLy.out.drewN 1) (size_st _ _ _ _ _ _ _) rfl (by simp [Value.oneCell']) ?_
      have hA := Lib.hid (⟨box_off hA.out.1 (show w.heap.size ≠ w.heap.size + 1 by omega) #[.string B, .int .i64 ((t).p : Nat), .int .i64 ((t).e : Nat), .int .i64 ((t).o : Nat), .int .i64 n2, .string S2, .bool yb], box_off hA.out.2 (show w.heap.size + 3 ≠ w.heap.size + 1 by omega) #[.string B, .int .i64 ((t).p : Nat), .int .i64 ((t).e : Nat), .int .i64 ((t).o : Nat), .int .i64 n2, .string S2, .bool yb]⟩ : (fun v => Box v (w.heap.size) 85 #[.string B, .int .i64 ((t).p : Nat), .int .i64 ((t).e : Nat), .int .i64 ((t).o : Nat), .int .i64 n2, .string S2, .bool yb] ∧ Box v (w.heap.size + 3) 24 #[.string q1, .int .i64 (q2 : Nat), .slice A k c']) (_ : World))
      refine hK.out _ _ ?_ (fun hHeld => ?_)
      · exact hA.out
      clear hK K
      (try simp only [Act.put])
      refine wpAnyH_ready (rs := [3]) (by decide +kernel) (by simp) ?_
      refine AllReadyH.cons (o := ⟨none, _, _, _, _, _⟩) rfl (fun K hK => ?_) AllReadyH.nil
      rw [if_pos (by rfl)]
      refine oper_store 24 _ _ rfl (w.heap.size + 2) 24 _ #[.string q1, .int .i64 (q2 : Nat), .slice A k c'] rfl rfl hs (by show (Try.prog.info? 24).map (·.size) = some 3; kernel_rfl) rfl (by simp [Value.oneCell']) ?_
      have hA := Lib.hid (⟨box_off hA.out.1 (show w.heap.size ≠ w.heap.size + 2 by omega) #[.string q1, .int .i64 (q2 : Nat), .slice A k c'], box_off hA.out.2 (show w.heap.size + 3 ≠ w.heap.size + 2 by omega) #[.string q1, .int .i64 (q2 : Nat), .slice A k c']⟩ : (fun v => Box v (w.heap.size) 85 #[.string B, .int .i64 ((t).p : Nat), .int .i64 ((t).e : Nat), .int .i64 ((t).o : Nat), .int .i64 n2, .string S2, .bool yb] ∧ Box v (w.heap.size + 3) 24 #[.string q1, .int .i64 (q2 : Nat), .slice A k c']) (_ : World))
      refine hK.out _ _ ?_ (fun hHeld => ?_)
      · exact hA.out
      clear hK K
      (try simp only [Act.put])
      refine wpAnyH_done (by kernel_rfl) ?_ _
      clear z0 z1 z2 z3 z4 z5 z6 y0 y1 y2
      go_wp2_with fail
      refine bodyPost_ret (res_cc rfl _ _ (w.heap.size + 1) (w.heap.size + 2) #[.string B, .int .i64 ((t).p : Nat), .int .i64 ((t).e : Nat), .int .i64 ((t).o : Nat), .int .i64 n2, .string S2, .bool yb] #[.string q1, .int .i64 (q2 : Nat), .slice A k c'] Try.underlying85 Try.underlying24 (size_st _ _ _ _ _ _ _) (by show (Try.prog.info? 24).map (·.size) = some 3; kernel_rfl) rfl rfl (box_off (box_set (HLy.out.drewN 1) _) (by omega) _) (box_set hs _)) rfl (HF.out _ _ _ _ _ _ ?_ ?_)
      · exact below_putRow (below_putRow (Below.drew HLb.out) (by omega) _) (by omega) _
      · have h1 : (wr.drewN 1).ownsRow w.heap.size 67 12 (.slice A k c') k (cellsS xs) := HLo.out
        have h2 := h1.kept (setRow_grown (wr.drewN 1) (w.heap.size + 1) #[.string B, .int .i64 ((t).p : Nat), .int .i64 ((t).e : Nat), .int .i64 ((t).o : Nat), .int .i64 n2, .string S2, .bool yb]) (.inr (own_far h1 (HLy.out.drewN 1) (by decide)))
        exact h2.kept (setRow_grown _ (w.heap.size + 2) _) (.inr (own_far h2 hs (by decide)))
end Go.Proofs.Ytihkadbcjeohjaa.Co
