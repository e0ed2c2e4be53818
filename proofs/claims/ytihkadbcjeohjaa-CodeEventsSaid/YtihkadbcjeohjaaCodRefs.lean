/-
  What the document's own Take, Flag, End, Count and Text answer.
  Conditions: the place is within the bytes; they are at most 2^40.
-/
import Derived.Test.YtihkadbcjeohjaaCodRef
import Derived.BigRegion
namespace Go.Proofs.Ytihkadbcjeohjaa
open Go.RowKit

/-- what the document's call leaves: its reader, and an answer -/
def RefTo (w : World) (zn : Int) (zs : ByteArray) (zy : Bool) (B : ByteArray) (pos er on : Nat) (v : Value) (e : Ending) (w' : World) : Prop :=
  e = .returned (.tuple #[.agg (stV zn zs zy B pos er on), v]) ∧ Below w.heap.size w w'

theorem xtake_any (zn : Int) (zs : ByteArray) (zy : Bool) (B : ByteArray) (pos er on : Nat) (w : World) (hp : pos ≤ B.size) (hB : B.size ≤ 1099511627776) (hno : er = 0 → on = 0) :
    Calls Try.prog 77 #[.agg (stV zn zs zy B pos er on)] w
      (RefTo w zn zs zy B (nxP pos er 8 (numE B.data.toList pos)) (nxE er (numE B.data.toList pos)) (nxO pos on er (numE B.data.toList pos)) (.int .i64 (numA B.data.toList pos er : Nat))) := by
  by_cases her : er = 0
  · subst her
    obtain rfl := hno rfl
    have hz : numA B.data.toList pos 0 = if numE B.data.toList pos = 0 then numAt B.data.toList pos else 0 := by
      unfold numA okB
      by_cases h : numE B.data.toList pos = 0 <;> simp [h]
    rcases numE_cases B.data.toList pos with ⟨h1, h2⟩ | ⟨h1, h2, h3⟩ | ⟨h1, h2, h3⟩
    · rw [len_eq] at h2
      rw [hz, h1]
      exact rtake_short zn zs zy B pos w hp h2
    · rw [len_eq] at h2
      rw [hz, h1]
      exact rtake_large zn zs zy B pos w h2 hB h3
    · rw [len_eq] at h2
      rw [hz, h1]
      exact rtake_ok zn zs zy B pos w h2 hB h3
  · have hz : numA B.data.toList pos er = 0 := by unfold numA okB; simp [her]
    have h1 : nxP pos er 8 (numE B.data.toList pos) = pos := by simp [nxP, her]
    have h2 : nxE er (numE B.data.toList pos) = er := by simp [nxE, her]
    have h3 : nxO pos on er (numE B.data.toList pos) = on := by simp [nxO, her]
    rw [hz, h1, h2, h3]
    exact rtake_late zn zs zy B pos er on w her

/-- the seven cells -/
theorem Box.seven {w : World} {g : Nat} {zn : Int} {zs : ByteArray} {zy : Bool} {B : ByteArray} {pos er on : Int} (h : Box w g 85 (stV zn zs zy B pos er on)) :
    w.cell? ⟨g, 0, none⟩ = some (.string B) ∧ w.cell? ⟨g, 1, none⟩ = some (.int .i64 pos) ∧ w.cell? ⟨g, 2, none⟩ = some (.int .i64 er) ∧ w.cell? ⟨g, 3, none⟩ = some (.int .i64 on) ∧
      w.cell? ⟨g, 4, none⟩ = some (.int .i64 zn) ∧ w.cell? ⟨g, 5, none⟩ = some (.string zs) ∧ w.cell? ⟨g, 6, none⟩ = some (.bool zy) :=
  ⟨h.cell 0, h.cell 1, h.cell 2, h.cell 3, h.cell 4, h.cell 5, h.cell 6⟩
theorem Box.new1 (w : World) (o : Obj) (t : TypeId) (cs : Array Value) : Box ((w.alloc (.cells cs t)).alloc o) w.heap.size t cs := (Box.new w t cs).alloc o

set_option maxHeartbeats 1000000 in
set_option maxRecDepth 100000 in
theorem xend_any (zn : Int) (zs : ByteArray) (zy : Bool) (B : ByteArray) (pos er on : Nat) (w : World) (hno : er = 0 → on = 0) :
    Calls Try.prog 36 #[.agg (stV zn zs zy B pos er on)] w fun e w' =>
      e = .returned (.agg (stV zn zs zy B (nxP pos er 0 (endE B.data.toList pos) : Nat) (nxE er (endE B.data.toList pos) : Nat) (nxO pos on er (endE B.data.toList pos) : Nat))) ∧ Below w.heap.size w w' := by
  by_cases her : er = 0
  · subst her
    obtain rfl := hno rfl
    by_cases h8 : pos < B.size
    · have hE : endE B.data.toList pos = 3 := by unfold endE; rw [len_eq, if_pos h8]
      rw [hE]
      show Calls Try.prog 36 #[.agg (stV zn zs zy B pos 0 0)] w fun e w' => e = .returned (.agg (stV zn zs zy B pos 3 pos)) ∧ Below w.heap.size w w'
      have HF := Lib.hid (fun W => fail_any zn zs zy B pos 0 0 3 W)
      have HZ := Lib.hid (size28 zn zs zy B pos 3 pos)
      have HO := Lib.hid (one28 zn zs zy B pos 3 pos)
      clear hE
      unfold stV at HF ⊢
      go_enter Try.func36, Try.ntmps36
      go_wp2_with fail
      refine (HF.out _).mono ?_
      rintro e w1 ⟨rfl, b1⟩
      have hB2 := (Box.new2 w _ _ _).below b1 (by simp)
      go_wp2_with (refine wpList_store_row rfl 85 (.tmp 2) (.tmp 17) rfl (w.heap.size + 1) 85 _ (stV zn zs zy B pos 3 pos) rfl rfl hB2 HZ.out rfl HO.out ?_)
      refine bodyPost_ret (results_cell_row rfl _ _ (w.heap.size + 1) 85 (stV zn zs zy B pos 3 pos) (0, 0) _ rfl (hB2.row _) Try.underlying85 rfl (size28 zn zs zy B pos 3 pos)) rfl ⟨rfl, ?_⟩
      exact below_putRow ((below2 w _ _).trans (b1.mono (by simp; omega))) (by omega) _
    · have hE : endE B.data.toList pos = 0 := by unfold endE; rw [len_eq, if_neg h8]
      rw [hE]
      show Calls Try.prog 36 #[.agg (stV zn zs zy B pos 0 0)] w fun e w' => e = .returned (.agg (stV zn zs zy B pos 0 0)) ∧ Below w.heap.size w w'
      clear hE
      unfold stV
      go_enter Try.func36, Try.ntmps36
      go_wp2
      refine bodyPost_ret (results_cell_row rfl _ _ (w.heap.size + 1) 85 (stV zn zs zy B pos 0 0) (0, 0) _ rfl (Box.new2 w _ _ _) Try.underlying85 rfl (size28 zn zs zy B pos 0 0)) rfl ⟨rfl, ?_⟩
      exact below2 w _ _
  · have h1 : nxP pos er 0 (endE B.data.toList pos) = pos := by simp [nxP, her]
    have h2 : nxE er (endE B.data.toList pos) = er := by simp [nxE, her]
    have h3 : nxO pos on er (endE B.data.toList pos) = on := by simp [nxO, her]
    rw [h1, h2, h3]
    have hz : ((er : Int) == 0) = false := by simpa using her
    clear h1 h2 h3 hno
    unfold stV
    go_enter Try.func36, Try.ntmps36
    go_wp2
    refine bodyPost_ret (results_cell_row rfl _ _ (w.heap.size + 1) 85 (stV zn zs zy B pos er on) (0, 0) _ rfl (Box.new2 w _ _ _) Try.underlying85 rfl (size28 zn zs zy B pos er on)) rfl ⟨rfl, ?_⟩
    exact below2 w _ _

set_option maxHeartbeats 1000000 in
set_option maxRecDepth 100000 in
theorem xflag_any (zn : Int) (zs : ByteArray) (zy : Bool) (B : ByteArray) (pos er on : Nat) (w : World) (hp : pos ≤ B.size) (hB : B.size ≤ 1099511627776) (hno : er = 0 → on = 0) :
    Calls Try.prog 79 #[.agg (stV zn zs zy B pos er on)] w
      (RefTo w zn zs zy B (nxP pos er 1 (flagE B.data.toList pos)) (nxE er (flagE B.data.toList pos)) (nxO pos on er (flagE B.data.toList pos)) (.bool (flagA B.data.toList pos er))) := by
  by_cases her : er = 0
  · subst her
    obtain rfl := hno rfl
    by_cases h8 : pos < B.size
    · have hl8 : pos < B.data.toList.length := by rw [len_eq]; exact h8
      have hgt : B.data.toList[pos] = B[pos] := rfl
      have hE : flagE B.data.toList pos = if B[pos] = 0 ∨ B[pos] = 1 then 0 else 3 := by unfold flagE; rw [dif_pos hl8]; rfl
      have hF : flagB B.data.toList pos = (B[pos] == 1) := by unfold flagB; rw [dif_pos hl8]; rfl
      by_cases hx : B[pos] = 0 ∨ B[pos] = 1
      · rw [if_pos hx] at hE
        have hA : flagA B.data.toList pos 0 = (B[pos] == 1) := by unfold flagA; rw [hE, hF]; simp [okB]
        rw [hE, hA]
        have hx1 : B[pos].toNat ≤ 1 := by rcases hx with h | h <;> rw [h] <;> decide
        have hy : (B[pos] == 1) = ((B[pos].toNat : Int) == 1) := by
          rw [Bool.eq_iff_iff]
          simp only [beq_iff_eq]
          constructor
          · intro h; rw [h]; rfl
          · intro h; apply UInt8.toNat_inj.1; show B[pos].toNat = 1; omega
        rw [hy]
        show Calls Try.prog 79 #[.agg (stV zn zs zy B pos 0 0)] w fun e w' => e = .returned (.tuple #[.agg (stV zn zs zy B ((pos + 1 : Nat) : Int) 0 0), .bool ((B[pos].toNat : Int) == 1)]) ∧ Below w.heap.size w w'
        clear hE hF hA hy hx hgt
        have hx2 : decide (1 < (B[pos].toNat : Int)) = false := by simp; omega
        have hp2 : ((pos : Int) == (B.size : Int)) = false := by simp; omega
        unfold stV
        go_enter Try.func79, Try.ntmps79
        go_wp2
        go_region
        go_wp2
        refine bodyPost_ret (res_box_tmp rfl _ _ (w.heap.size + 1) zn zs zy B ((pos + 1 : Nat) : Int) 0 0 rfl (Box.new2 w _ _ _)) rfl ⟨rfl, ?_⟩
        exact (below2 w _ _).drew
      · rw [if_neg hx] at hE
        have hA : flagA B.data.toList pos 0 = false := by unfold flagA; rw [hE]; simp [okB]
        rw [hE, hA]
        have hx1 : 1 < B[pos].toNat := by
          rcases Nat.lt_or_ge 1 B[pos].toNat with h | h
          · exact h
          · exfalso
            apply hx
            rcases (by omega : B[pos].toNat = 0 ∨ B[pos].toNat = 1) with h | h
            · left; apply UInt8.toNat_inj.1; exact h
            · right; apply UInt8.toNat_inj.1; exact h
        have hx2 : decide (1 < (B[pos].toNat : Int)) = true := by simp; omega
        have hp2 : ((pos : Int) == (B.size : Int)) = false := by simp; omega
        clear hE hF hA hx hgt
        show Calls Try.prog 79 #[.agg (stV zn zs zy B pos 0 0)] w fun e w' => e = .returned (.tuple #[.agg (stV zn zs zy B pos 3 pos), .bool false]) ∧ Below w.heap.size w w'
        have HF := Lib.hid (fun W => fail_any zn zs zy B pos 0 0 3 W)
        have HZ := Lib.hid (size28 zn zs zy B pos 3 pos)
        have HO := Lib.hid (one28 zn zs zy B pos 3 pos)
        unfold stV at HF ⊢
        go_enter Try.func79, Try.ntmps79
        go_wp2_with fail
        refine (HF.out _).mono ?_
        rintro e w1 ⟨rfl, b1⟩
        have hB2 := (Box.new2 w _ _ _).below b1 (by simp)
        go_wp2_with (refine wpList_store_row rfl 85 (.tmp 2) (.tmp 27) rfl (w.heap.size + 1) 85 _ (stV zn zs zy B pos 3 pos) rfl rfl hB2 HZ.out rfl HO.out ?_)
        refine bodyPost_ret (res_box_tmp rfl _ _ (w.heap.size + 1) zn zs zy B pos 3 pos rfl (hB2.row _)) rfl ⟨rfl, ?_⟩
        exact below_putRow ((below2 w _ _).trans (b1.mono (by simp; omega))) (by omega) _
    · have hE : flagE B.data.toList pos = 2 := by unfold flagE; rw [dif_neg (by rw [len_eq]; exact h8)]
      have hA : flagA B.data.toList pos 0 = false := by unfold flagA; rw [hE]; simp [okB]
      rw [hE, hA]
      have hp2 : ((pos : Int) == (B.size : Int)) = true := by simp; omega
      clear hE hA
      show Calls Try.prog 79 #[.agg (stV zn zs zy B pos 0 0)] w fun e w' => e = .returned (.tuple #[.agg (stV zn zs zy B pos 2 pos), .bool false]) ∧ Below w.heap.size w w'
      have HF := Lib.hid (fun W => fail_any zn zs zy B pos 0 0 2 W)
      have HZ := Lib.hid (size28 zn zs zy B pos 2 pos)
      have HO := Lib.hid (one28 zn zs zy B pos 2 pos)
      unfold stV at HF ⊢
      go_enter Try.func79, Try.ntmps79
      go_wp2_with fail
      refine (HF.out _).mono ?_
      rintro e w1 ⟨rfl, b1⟩
      have hB2 := (Box.new2 w _ _ _).below b1 (by simp)
      go_wp2_with (refine wpList_store_row rfl 85 (.tmp 2) (.tmp 17) rfl (w.heap.size + 1) 85 _ (stV zn zs zy B pos 2 pos) rfl rfl hB2 HZ.out rfl HO.out ?_)
      refine bodyPost_ret (res_box_tmp rfl _ _ (w.heap.size + 1) zn zs zy B pos 2 pos rfl (hB2.row _)) rfl ⟨rfl, ?_⟩
      exact below_putRow ((below2 w _ _).trans (b1.mono (by simp; omega))) (by omega) _
  · have hz : flagA B.data.toList pos er = false := by unfold flagA okB; simp [her]
    have h1 : nxP pos er 1 (flagE B.data.toList pos) = pos := by simp [nxP, her]
    have h2 : nxE er (flagE B.data.toList pos) = er := by simp [nxE, her]
    have h3 : nxO pos on er (flagE B.data.toList pos) = on := by simp [nxO, her]
    rw [hz, h1, h2, h3]
    have hz1 : ((er : Int) == 0) = false := by simpa using her
    show Calls Try.prog 79 #[.agg (stV zn zs zy B pos er on)] w fun e w' => e = .returned (.tuple #[.agg (stV zn zs zy B pos er on), .bool false]) ∧ Below w.heap.size w w'
    clear h1 h2 h3 hno hz
    unfold stV
    go_enter Try.func79, Try.ntmps79
    go_wp2
    refine bodyPost_ret (res_box_tmp rfl _ _ (w.heap.size + 1) zn zs zy B pos er on rfl (Box.new2 w _ _ _)) rfl ⟨rfl, ?_⟩
    exact below2 w _ _
end Go.Proofs.Ytihkadbcjeohjaa
