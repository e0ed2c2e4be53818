/-
  What the document's own Text answers.
  Conditions: the place is within the bytes; they are at most 2^40.
-/
import Derived.Test.YtihkadbcjeohjaaCodRefs2
namespace Go.Proofs.Ytihkadbcjeohjaa
open Go.RowKit

/-- Take's outcome is an error -/
theorem xtext_err (zn : Int) (zs : ByteArray) (zy : Bool) (B : ByteArray) (pos er on P E O N : Nat) (most : Int) (w : World) (hT : ∀ W, Calls Try.prog 77 #[.agg (stV zn zs zy B pos er on)] W (RefTo W zn zs zy B P E O (.int .i64 (N : Int)))) (hE : E ≠ 0) :
    Calls Try.prog 78 #[.agg (stV zn zs zy B pos er on), .int .i64 most] w (RefTo w zn zs zy B P E O (.string ⟨#[]⟩)) := by
  show Calls Try.prog 78 #[.agg (stV zn zs zy B pos er on), .int .i64 most] w fun e w' => e = .returned (.tuple #[.agg (stV zn zs zy B P E O), .string ⟨#[]⟩]) ∧ Below w.heap.size w w'
  have HT := Lib.hid hT
  clear hT
  have HZ := Lib.hid (size28 zn zs zy B P E O)
  have HO := Lib.hid (one28 zn zs zy B P E O)
  have hz1 : ((E : Int) == 0) = false := by simpa using hE
  have hz2 : ((E : Int) != 0) = true := by simpa using hE
  clear hE
  unfold stV at HT ⊢
  go_enter Try.func78, Try.ntmps78
  go_wp2_with fail
  refine (HT.out _).mono ?_
  rintro e w1 ⟨rfl, b1⟩
  have hB6 := (Box.new2 w _ _ _).below b1 (by simp)
  have hsz : w.heap.size + 2 ≤ w1.heap.size := by have := b1.size; simpa using this
  unfold stV
  go_wp2_with (refine wpList_store_row rfl 85 (.tmp 4) (.tmp 17) rfl (w.heap.size + 1) 85 _ (stV zn zs zy B P E O) rfl rfl (hB6.alloc _) HZ.out rfl HO.out ?_)
  refine bodyPost_ret (res_box_tmp rfl _ _ (w.heap.size + 1) zn zs zy B P E O rfl ((hB6.alloc _).row _)) rfl ⟨rfl, ?_⟩
  exact below_putRow (((below2 w _ _).trans (b1.mono (by simp; omega))).alloc (by omega) _) (by omega) _

set_option maxHeartbeats 1000000 in
set_option maxRecDepth 100000 in
theorem xtext_large (zn : Int) (zs : ByteArray) (zy : Bool) (B : ByteArray) (pos N : Nat) (most : Int) (w : World) (hT : ∀ W, Calls Try.prog 77 #[.agg (stV zn zs zy B pos 0 0)] W (RefTo W zn zs zy B (pos + 8) 0 0 (.int .i64 (N : Int)))) (_h8 : pos + 8 ≤ B.size) (_hB : B.size ≤ 1099511627776) (_hN : N ≤ 4611686018427387904) (hm : most < N) :
    Calls Try.prog 78 #[.agg (stV zn zs zy B pos 0 0), .int .i64 most] w fun e w' => e = .returned (.tuple #[.agg (stV zn zs zy B pos 4 pos), .string ⟨#[]⟩]) ∧ Below w.heap.size w w' := by
  have hT' : ∀ W, Calls Try.prog 77 #[.agg (stV zn zs zy B pos 0 0)] W fun e w' => e = .returned (.tuple #[.agg (stV zn zs zy B ((pos : Int) + 8) 0 0), .int .i64 (N : Int)]) ∧ Below W.heap.size W w' := hT
  have HT := Lib.hid hT'
  clear hT hT'
  have HZ := Lib.hid (size28 zn zs zy B pos 4 pos)
  have HO := Lib.hid (one28 zn zs zy B pos 4 pos)
  have HF := Lib.hid (fun W => fail_any zn zs zy B pos 0 0 4 W)
  unfold stV at HF
  unfold stV at HT ⊢
  go_enter Try.func78, Try.ntmps78
  go_wp2_with fail
  refine (HT.out _).mono ?_
  rintro e w1 ⟨rfl, b1⟩
  have hBo := (Box.new2 w _ _ _).below b1 (by simp)
  have hBi := (Box.new1 w _ 85 (stV zn zs zy B pos 0 0)).below b1 (by simp; omega)
  obtain ⟨c0, c1, c2, c3, c4, c5, c6⟩ := hBi.seven
  have hsz : w.heap.size + 2 ≤ w1.heap.size := by have := b1.size; simpa using this
  have hsz1 : w.heap.size < w1.heap.size := by omega
  go_wp2_with fail
  refine (HF.out _).mono ?_
  rintro e w2 ⟨rfl, b2⟩
  have hBo2 := (hBo.alloc _).below b2 (by simp; omega)
  go_wp2_with (refine wpList_store_row rfl 85 (.tmp 4) (.tmp 24) rfl (w.heap.size + 1) 85 _ (stV zn zs zy B pos 4 pos) rfl rfl hBo2 HZ.out rfl HO.out ?_)
  refine bodyPost_ret (res_box_tmp rfl _ _ (w.heap.size + 1) zn zs zy B pos 4 pos rfl (hBo2.row _)) rfl ⟨rfl, ?_⟩
  have hq : Below w.heap.size w (w1.alloc (.cells (stV zn zs zy B ((pos : Int) + 8) 0 0) 85)) := ((below2 w _ _).trans (b1.mono (by simp; omega))).alloc (by omega) _
  exact below_putRow (hq.trans (b2.mono (by simp; omega))) (by omega) _

set_option maxHeartbeats 1000000 in
set_option maxRecDepth 100000 in
theorem xtext_short (zn : Int) (zs : ByteArray) (zy : Bool) (B : ByteArray) (pos N : Nat) (most : Int) (w : World) (hT : ∀ W, Calls Try.prog 77 #[.agg (stV zn zs zy B pos 0 0)] W (RefTo W zn zs zy B (pos + 8) 0 0 (.int .i64 (N : Int)))) (_h8 : pos + 8 ≤ B.size) (_hB : B.size ≤ 1099511627776) (_hN : N ≤ 4611686018427387904) (hm : ¬ most < N) (hq : (B.size : Int) - ((pos : Int) + 8) < N) :
    Calls Try.prog 78 #[.agg (stV zn zs zy B pos 0 0), .int .i64 most] w fun e w' => e = .returned (.tuple #[.agg (stV zn zs zy B pos 2 pos), .string ⟨#[]⟩]) ∧ Below w.heap.size w w' := by
  have hT' : ∀ W, Calls Try.prog 77 #[.agg (stV zn zs zy B pos 0 0)] W fun e w' => e = .returned (.tuple #[.agg (stV zn zs zy B ((pos : Int) + 8) 0 0), .int .i64 (N : Int)]) ∧ Below W.heap.size W w' := hT
  have HT := Lib.hid hT'
  clear hT hT'
  have HZ := Lib.hid (size28 zn zs zy B pos 2 pos)
  have HO := Lib.hid (one28 zn zs zy B pos 2 pos)
  have HF := Lib.hid (fun W => fail_any zn zs zy B pos 0 0 2 W)
  unfold stV at HF
  unfold stV at HT ⊢
  go_enter Try.func78, Try.ntmps78
  go_wp2_with fail
  refine (HT.out _).mono ?_
  rintro e w1 ⟨rfl, b1⟩
  have hBo := (Box.new2 w _ _ _).below b1 (by simp)
  have hBi := (Box.new1 w _ 85 (stV zn zs zy B pos 0 0)).below b1 (by simp; omega)
  obtain ⟨c0, c1, c2, c3, c4, c5, c6⟩ := hBi.seven
  have hsz : w.heap.size + 2 ≤ w1.heap.size := by have := b1.size; simpa using this
  have hsz1 : w.heap.size < w1.heap.size := by omega
  go_wp2_with fail
  refine (HF.out _).mono ?_
  rintro e w2 ⟨rfl, b2⟩
  have hBo2 := (hBo.alloc _).below b2 (by simp; omega)
  go_wp2_with (refine wpList_store_row rfl 85 (.tmp 4) (.tmp 36) rfl (w.heap.size + 1) 85 _ (stV zn zs zy B pos 2 pos) rfl rfl hBo2 HZ.out rfl HO.out ?_)
  refine bodyPost_ret (res_box_tmp rfl _ _ (w.heap.size + 1) zn zs zy B pos 2 pos rfl (hBo2.row _)) rfl ⟨rfl, ?_⟩
  have hq : Below w.heap.size w (w1.alloc (.cells (stV zn zs zy B ((pos : Int) + 8) 0 0) 85)) := ((below2 w _ _).trans (b1.mono (by simp; omega))).alloc (by omega) _
  exact below_putRow (hq.trans (b2.mono (by simp; omega))) (by omega) _

theorem run_str_txt (B : ByteArray) (pos N : Nat) (h : pos + 8 + N ≤ B.size) (W : World) :
    (Instr.slice 9 (.string B) (some (.int .i64 ((pos : Int) + 8))) (some (.int .i64 ((pos : Int) + 8 + (N : Int)))) none).run Try.prog W = .ok (.string (B.extract (pos + 8) (pos + 8 + N))) W := by
  have e := run_slice_string (P := Try.prog) W 9 B .i64 .i64 ((pos : Int) + 8) ((pos : Int) + 8 + (N : Int)) Try.underlying9 (by omega) (by omega) (by omega)
  rw [show ((pos : Int) + 8).toNat = pos + 8 by omega, show ((pos : Int) + 8 + (N : Int)).toNat = pos + 8 + N by omega] at e
  exact e

set_option maxHeartbeats 1000000 in
set_option maxRecDepth 100000 in
theorem xtext_ok (zn : Int) (zs : ByteArray) (zy : Bool) (B : ByteArray) (pos N : Nat) (most : Int) (w : World) (hT : ∀ W, Calls Try.prog 77 #[.agg (stV zn zs zy B pos 0 0)] W (RefTo W zn zs zy B (pos + 8) 0 0 (.int .i64 (N : Int)))) (_h8 : pos + 8 ≤ B.size) (_hB : B.size ≤ 1099511627776) (_hN : N ≤ 4611686018427387904) (hm : ¬ most < N) (hq : ¬ (B.size : Int) - ((pos : Int) + 8) < N) :
    Calls Try.prog 78 #[.agg (stV zn zs zy B pos 0 0), .int .i64 most] w fun e w' => e = .returned (.tuple #[.agg (stV zn zs zy B ((pos : Int) + 8 + N) 0 0), .string (B.extract (pos + 8) (pos + 8 + N))]) ∧ Below w.heap.size w w' := by
  have hT' : ∀ W, Calls Try.prog 77 #[.agg (stV zn zs zy B pos 0 0)] W fun e w' => e = .returned (.tuple #[.agg (stV zn zs zy B ((pos : Int) + 8) 0 0), .int .i64 (N : Int)]) ∧ Below W.heap.size W w' := hT
  have HT := Lib.hid hT'
  clear hT hT'
  have HZ := Lib.hid (size28 zn zs zy B ((pos : Int) + 8 + N) 0 0)
  have HO := Lib.hid (one28 zn zs zy B ((pos : Int) + 8 + N) 0 0)
  have hcut := run_str_txt B pos N (by omega)
  unfold stV at HT ⊢
  go_enter Try.func78, Try.ntmps78
  go_wp2_with fail
  refine (HT.out _).mono ?_
  rintro e w1 ⟨rfl, b1⟩
  have hBo := (Box.new2 w _ _ _).below b1 (by simp)
  have hsz : w.heap.size + 2 ≤ w1.heap.size := by have := b1.size; simpa using this
  go_wp2_with (refine wpList_store_row rfl 85 (.tmp 4) (.tmp 51) rfl (w.heap.size + 1) 85 _ (stV zn zs zy B ((pos : Int) + 8 + N) 0 0) rfl rfl (hBo.alloc _) HZ.out rfl HO.out ?_)
  refine bodyPost_ret (res_box_tmp rfl _ _ (w.heap.size + 1) zn zs zy B ((pos : Int) + 8 + N) 0 0 rfl ((hBo.alloc _).row _)) rfl ⟨rfl, ?_⟩
  exact below_putRow (((below2 w _ _).trans (b1.mono (by simp; omega))).alloc (by omega) _) (by omega) _

theorem ext_txt (B : ByteArray) (p n : Nat) : B.extract p (p + n) = ⟨((B.data.toList.drop p).take n).toArray⟩ := by
  have h : (B.extract p (p + n)).data.toList = (B.data.toList.drop p).take n := by
    rw [ByteArray.data_extract]
    simp only [Array.toList_extract, List.extract]
    rw [Nat.add_sub_cancel_left]
  rw [← h]
theorem xtext_any (zn : Int) (zs : ByteArray) (zy : Bool) (B : ByteArray) (pos er on : Nat) (most : Int) (w : World) (hp : pos ≤ B.size) (hB : B.size ≤ 1099511627776) (hno : er = 0 → on = 0) :
    Calls Try.prog 78 #[.agg (stV zn zs zy B pos er on), .int .i64 most] w
      (RefTo w zn zs zy B (nxP pos er (8 + numN B.data.toList pos) (txtE B.data.toList pos most)) (nxE er (txtE B.data.toList pos most)) (nxO pos on er (txtE B.data.toList pos most)) (.string ⟨(txtA B.data.toList pos er most).toArray⟩)) := by
  have hT := fun W => xtake_any zn zs zy B pos er on W hp hB hno
  by_cases her : er = 0
  · subst her
    obtain rfl := hno rfl
    by_cases hE : numE B.data.toList pos = 0
    · have hN := numN_of hE
      have hN4 := numN_le B.data.toList pos
      have h8 := numE_len hE
      have hA : numA B.data.toList pos 0 = numN B.data.toList pos := by unfold numA okB; rw [hE, hN]; rfl
      rw [hE, hA] at hT
      rw [len_eq] at h8
      have hC : txtE B.data.toList pos most = if most < numN B.data.toList pos then 4 else if (B.size : Int) - ((pos : Int) + 8) < numN B.data.toList pos then 2 else 0 := by
        unfold txtE; rw [if_neg (by simpa using hE), len_eq, show (B.size : Int) - pos - 8 = (B.size : Int) - ((pos : Int) + 8) by omega]
      by_cases hm : most < numN B.data.toList pos
      · rw [if_pos hm] at hC
        rw [hC, txtA_zero hC (er := 0) (ok_no (by omega))]
        exact xtext_large zn zs zy B pos _ most w hT h8 hB hN4 hm
      · rw [if_neg hm] at hC
        by_cases hq : (B.size : Int) - ((pos : Int) + 8) < numN B.data.toList pos
        · rw [if_pos hq] at hC
          rw [hC, txtA_zero hC (er := 0) (ok_no (by omega))]
          exact xtext_short zn zs zy B pos _ most w hT h8 hB hN4 hm hq
        · rw [if_neg hq] at hC
          rw [hC, txtA_txt hC (er := 0) rfl, ← ext_txt]
          have h := xtext_ok zn zs zy B pos _ most w hT h8 hB hN4 hm hq
          rw [show (pos : Int) + 8 + (numN B.data.toList pos : Nat) = ((pos + (8 + numN B.data.toList pos) : Nat) : Int) by omega] at h
          exact h
    · have hC : txtE B.data.toList pos most = numE B.data.toList pos := by unfold txtE; rw [if_pos hE]
      have hP : nxP pos 0 (8 + numN B.data.toList pos) (numE B.data.toList pos) = nxP pos 0 8 (numE B.data.toList pos) := by simp [nxP, hE]
      rw [hC, txtA_zero hC (er := 0) (ok_no hE), hP]
      exact xtext_err zn zs zy B pos 0 0 _ _ _ _ most w hT (by simpa [nxE] using hE)
  · have hz : txtA B.data.toList pos er most = [] := by unfold txtA okB; simp [her]
    have h1 : nxP pos er (8 + numN B.data.toList pos) (txtE B.data.toList pos most) = nxP pos er 8 (numE B.data.toList pos) := by simp [nxP, her]
    have h2 : nxE er (txtE B.data.toList pos most) = nxE er (numE B.data.toList pos) := by simp [nxE, her]
    have h3 : nxO pos on er (txtE B.data.toList pos most) = nxO pos on er (numE B.data.toList pos) := by simp [nxO, her]
    rw [hz, h1, h2, h3]
    exact xtext_err zn zs zy B pos er on _ _ _ _ most w hT (by simp [nxE, her])
end Go.Proofs.Ytihkadbcjeohjaa
