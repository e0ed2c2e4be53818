/-
  What the document's own fail, Take, Flag and End answer.
  Conditions: the place is within the bytes; they are at most 2^40.
-/
import Derived.Test.YtihkadbcjeohjaaFldText
import Derived.Test.YtihkadbcjeohjaaFldRefMath
namespace Go.Proofs.Ytihkadbcjeohjaa
open Go.RowKit

/-- the document's reader -/
def stV (zn : Int) (zs : ByteArray) (zy : Bool) (B : ByteArray) (pos er on : Int) : Array Value := #[.string B, .int .i64 pos, .int .i64 er, .int .i64 on, .int .i64 zn, .string zs, .bool zy]
theorem size28 (zn : Int) (zs : ByteArray) (zy : Bool) (B : ByteArray) (pos er on : Int) : (Try.prog.info? 85).map (·.size) = some (stV zn zs zy B pos er on).size := by
  show (Try.prog.info? 85).map (·.size) = some 7
  kernel_rfl
theorem one28 (zn : Int) (zs : ByteArray) (zy : Bool) (B : ByteArray) (pos er on : Int) : (stV zn zs zy B pos er on).all (·.oneCell') = true := by simp [stV, Value.oneCell']
/-- a result that lies in a block, and one in a slot -/
theorem res_box_tmp {fn : Func} {p u : Tmp} (h : fn.results = #[.cell p 85, .tmp u]) (tmps : Array Value) (w : World) (g : Nat) (zn : Int) (zs : ByteArray) (zy : Bool) (B : ByteArray) (pos er on : Int)
    (hp : tmps.getD p undef = .pointer (some ⟨g, 0, none⟩)) (hg : Box w g 85 (stV zn zs zy B pos er on)) :
    (results fn tmps).run Try.prog w = .ok (.tuple #[.agg (stV zn zs zy B pos er on), tmps.getD u undef]) w := by
  rw [results_cell_tmp h]
  rw [hp]
  simp only [asAddr, Sem.run_pure, Result.andThen_ok, run_loadVar_row w g _ 85 _ _ _ hg Try.underlying85 rfl (size28 zn zs zy B pos er on)]
theorem Box.row {w : World} {g : Nat} {t : TypeId} {cs : Array Value} (h : Box w g t cs) (cs' : Array Value) : Box (w.setRow g cs') g t cs' := by
  unfold Box at h ⊢
  simp [World.setRow, Array.getElem?_modify, h]

theorem Box.new2 (w : World) (o : Obj) (t : TypeId) (cs : Array Value) : Box ((w.alloc o).alloc (.cells cs t)) (w.heap.size + 1) t cs := by
  have := Box.new (w.alloc o) t cs
  simpa using this
theorem below2 (w : World) (o o' : Obj) : Below w.heap.size w ((w.alloc o).alloc o') := ((Below.refl _ _).alloc (Nat.le_refl _) _).alloc (by simp) _

set_option maxHeartbeats 1000000 in
set_option maxRecDepth 100000 in
theorem fail_any (zn : Int) (zs : ByteArray) (zy : Bool) (B : ByteArray) (pos er on e0 : Int) (w : World) :
    Calls Try.prog 67 #[.agg (stV zn zs zy B pos er on), .int .i64 pos, .int .i64 e0] w fun e w' => e = .returned (.agg (stV zn zs zy B pos e0 pos)) ∧ Below w.heap.size w w' := by
  unfold stV
  go_enter Try.func67, Try.ntmps67
  go_wp2
  refine bodyPost_ret (results_cell_row rfl _ _ (w.heap.size + 1) 85 (stV zn zs zy B pos e0 pos) (0, 0) _ rfl ?_ Try.underlying85 rfl (size28 zn zs zy B pos e0 pos)) rfl ⟨rfl, ?_⟩
  · exact Box.new2 w _ _ _
  · exact below2 w _ _

set_option maxHeartbeats 1000000 in
set_option maxRecDepth 100000 in
theorem rtake_late (zn : Int) (zs : ByteArray) (zy : Bool) (B : ByteArray) (pos er on : Nat) (w : World) (he : er ≠ 0) :
    Calls Try.prog 77 #[.agg (stV zn zs zy B pos er on)] w fun e w' => e = .returned (.tuple #[.agg (stV zn zs zy B pos er on), .int .i64 0]) ∧ Below w.heap.size w w' := by
  have hz : ((er : Int) == 0) = false := by simpa using he
  have hz2 : ((er : Int) != 0) = true := by simpa using he
  unfold stV
  go_enter Try.func77, Try.ntmps77
  go_wp2
  refine bodyPost_ret (res_box_tmp rfl _ _ (w.heap.size + 1) zn zs zy B pos er on rfl ?_) rfl ⟨rfl, ?_⟩
  · exact Box.new2 w _ _ _
  · exact below2 w _ _

set_option maxHeartbeats 1000000 in
set_option maxRecDepth 100000 in
theorem rtake_short (zn : Int) (zs : ByteArray) (zy : Bool) (B : ByteArray) (pos : Nat) (w : World) (hp : pos ≤ B.size) (h8 : B.size < pos + 8) :
    Calls Try.prog 77 #[.agg (stV zn zs zy B pos 0 0)] w fun e w' => e = .returned (.tuple #[.agg (stV zn zs zy B pos 2 pos), .int .i64 0]) ∧ Below w.heap.size w w' := by
  have HF := Lib.hid (fun W => fail_any zn zs zy B pos 0 0 2 W)
  have hz1 := size28 zn zs zy B pos 2 pos
  have ho1 := one28 zn zs zy B pos 2 pos
  have HZ := Lib.hid hz1
  have HO := Lib.hid ho1
  clear hz1 ho1
  unfold stV at HF ⊢
  go_enter Try.func77, Try.ntmps77
  go_wp2_with (first
    | (go_at_call 67; refine (HF.out _).mono ?_; rintro e w1 ⟨rfl, b1⟩; have hB2 := (Box.new2 w _ _ _).below b1 (by simp))
    | (refine wpList_store_row rfl 85 (.tmp 2) (.tmp 20) rfl (w.heap.size + 1) 85 _ (stV zn zs zy B pos 2 pos) rfl rfl hB2 HZ.out rfl HO.out ?_))
  refine bodyPost_ret (res_box_tmp rfl _ _ (w.heap.size + 1) zn zs zy B pos 2 pos rfl (hB2.row _)) rfl ⟨rfl, ?_⟩
  exact below_putRow ((below2 w _ _).trans (b1.mono (by simp; omega))) (by omega) _

theorem run_str_cut (B : ByteArray) (pos : Nat) (h : pos + 8 ≤ B.size) (W : World) :
    (Instr.slice 9 (.string B) (some (.int .i64 ((pos : Int) + 1))) (some (.int .i64 ((pos : Int) + 8))) none).run Try.prog W = .ok (.string (B.extract (pos + 1) (pos + 8))) W := by
  have e := run_slice_string (P := Try.prog) W 9 B .i64 .i64 ((pos : Int) + 1) ((pos : Int) + 8) Try.underlying9 (by omega) (by omega) (by omega)
  rw [show ((pos : Int) + 1).toNat = pos + 1 by omega, show ((pos : Int) + 8).toNat = pos + 8 by omega] at e
  exact e
theorem rest_eq (B : ByteArray) (p : Nat) : (B.extract (p + 1) (p + 8)).toList = (B.data.toList.drop (p + 1)).take 7 := by
  rw [ByteArray.toList_eq, ByteArray.data_extract]
  simp only [Array.toList_extract, List.extract]
  rw [show p + 8 - (p + 1) = 7 by omega]
theorem len_eq (B : ByteArray) : B.data.toList.length = B.size := Array.length_toList

set_option maxHeartbeats 1000000 in
set_option maxRecDepth 100000 in
theorem rtake_large (zn : Int) (zs : ByteArray) (zy : Bool) (B : ByteArray) (pos : Nat) (w : World) (h8 : pos + 8 ≤ B.size) (hB : B.size ≤ 1099511627776) (hb : 4611686018427387904 < numAt B.data.toList pos) :
    Calls Try.prog 77 #[.agg (stV zn zs zy B pos 0 0)] w fun e w' => e = .returned (.tuple #[.agg (stV zn zs zy B pos 4 pos), .int .i64 0]) ∧ Below w.heap.size w w' := by
  have HF := Lib.hid (fun W => fail_any zn zs zy B pos 0 0 4 W)
  have HZ := Lib.hid (size28 zn zs zy B pos 4 pos)
  have HO := Lib.hid (one28 zn zs zy B pos 4 pos)
  have hl8 : pos + 8 ≤ B.data.toList.length := by rw [len_eq]; exact h8
  have hgt : B.data.toList[pos]'(by omega) = B[pos] := rfl
  by_cases hx : 64 < B[pos].toNat
  · have hd : decide (64 < (B[pos].toNat : Int)) = true := by simp; omega
    clear hgt hl8 hb
    unfold stV at HF ⊢
    go_enter Try.func77, Try.ntmps77
    go_wp2_with fail
    refine (HF.out _).mono ?_
    rintro e w1 ⟨rfl, b1⟩
    have hB2 := (Box.new2 w _ _ _).below b1 (by simp)
    go_wp2_with (refine wpList_store_row rfl 85 (.tmp 2) (.tmp 50) rfl (w.heap.size + 1) 85 _ (stV zn zs zy B pos 4 pos) rfl rfl hB2 HZ.out rfl HO.out ?_)
    refine bodyPost_ret (res_box_tmp rfl _ _ (w.heap.size + 1) zn zs zy B pos 4 pos rfl (hB2.row _)) rfl ⟨rfl, ?_⟩
    exact below_putRow ((below2 w _ _).trans (b1.mono (by simp; omega))) (by omega) _
  · have hx64 : B[pos].toNat = 64 := by
      rcases Nat.lt_or_ge B[pos].toNat 64 with h | h
      · have := small_first hl8 (by rw [hgt]; exact h); omega
      · omega
    have hr : (B.data.toList.drop (pos + 1)).take 7 ≠ [0, 0, 0, 0, 0, 0, 0] := fun e => by
      have := small_rest hl8 (by rw [hgt]; exact hx64) e; omega
    have hr1 : ((B.extract (pos + 1) (pos + 8)).toList == [0, 0, 0, 0, 0, 0, 0]) = false := by rw [rest_eq]; simpa using hr
    have hd : decide (64 < (B[pos].toNat : Int)) = false := by simp; omega
    have hd2 : ((B[pos].toNat : Int) == 64) = true := by simp; omega
    have hcut := run_str_cut B pos h8
    clear hgt hl8 hb hr hx hx64
    unfold stV at HF ⊢
    go_enter Try.func77, Try.ntmps77
    go_wp2_with fail
    refine (HF.out _).mono ?_
    rintro e w1 ⟨rfl, b1⟩
    have hB2 := (Box.new2 w _ _ _).below b1 (by simp)
    go_wp2_with (refine wpList_store_row rfl 85 (.tmp 2) (.tmp 50) rfl (w.heap.size + 1) 85 _ (stV zn zs zy B pos 4 pos) rfl rfl hB2 HZ.out rfl HO.out ?_)
    refine bodyPost_ret (res_box_tmp rfl _ _ (w.heap.size + 1) zn zs zy B pos 4 pos rfl (hB2.row _)) rfl ⟨rfl, ?_⟩
    exact below_putRow ((below2 w _ _).trans (b1.mono (by simp; omega))) (by omega) _

set_option maxHeartbeats 2000000 in
set_option maxRecDepth 100000 in
theorem rtake_ok (zn : Int) (zs : ByteArray) (zy : Bool) (B : ByteArray) (pos : Nat) (w : World) (h8 : pos + 8 ≤ B.size) (hB : B.size ≤ 1099511627776) (hb : numAt B.data.toList pos ≤ 4611686018427387904) :
    Calls Try.prog 77 #[.agg (stV zn zs zy B pos 0 0)] w fun e w' => e = .returned (.tuple #[.agg (stV zn zs zy B ((pos + 8 : Nat) : Int) 0 0), .int .i64 (numAt B.data.toList pos : Nat)]) ∧ Below w.heap.size w w' := by
  have hl8 : pos + 8 ≤ B.data.toList.length := by rw [len_eq]; exact h8
  have hgt : B.data.toList[pos]'(by omega) = B[pos] := rfl
  have hd : decide (64 < (B[pos].toNat : Int)) = false := by
    rcases Nat.lt_or_ge 64 B[pos].toNat with h | h
    · have := large_first hl8 (by rw [hgt]; exact h); omega
    · simp; omega
  have hd3 : ¬ 64 < B[pos].toNat := by intro h; have := large_first hl8 (by rw [hgt]; exact h); omega
  have hd8 : decide ((B.size : Int) - (pos : Int) < 8) = false := by simp; omega
  have hcut := run_str_cut B pos h8
  have hr : B[pos].toNat = 64 → ((B.extract (pos + 1) (pos + 8)).toList == [0, 0, 0, 0, 0, 0, 0]) = true := fun e => by
    rw [rest_eq]
    by_cases h : (B.data.toList.drop (pos + 1)).take 7 = [0, 0, 0, 0, 0, 0, 0]
    · simpa using h
    · have := large_rest hl8 (by rw [hgt]; exact e) h; omega
  have HR := Lib.hid hr
  have HL := Lib.hid hl8
  clear hr hgt hl8
  have hsum : ∀ k, k ≤ 7 → ∀ x : UInt8, numV ((B.data.toList.drop pos).take (k + 1)) = 256 * numV ((B.data.toList.drop pos).take k) + x.toNat → 256 * numV ((B.data.toList.drop pos).take k) + x.toNat ≤ 4611686018427387904 := fun k hk x e => by
    rw [← e]; exact Nat.le_trans (numV_take_le _ _ 8 (by omega)) hb
  have HSUM := Lib.hid hsum
  have HA : Hid (numAt B.data.toList pos = numV ((B.data.toList.drop pos).take 8)) := rfl
  clear hsum hb
  have hcases : ∃ c : Bool, ((B[pos].toNat : Int) == 64) = c ∧ (c = true → ((B.extract (pos + 1) (pos + 8)).toList == [0, 0, 0, 0, 0, 0, 0]) = true) := ⟨_, rfl, fun h => HR.out (by have := eq_of_beq h; omega)⟩
  obtain ⟨c, hc1, hc2⟩ := hcases
  clear HR
  unfold stV
  cases c with
  | true =>
    have hrz := hc2 rfl
    clear hc2
    go_enter Try.func77, Try.ntmps77
    go_wp2_with fail
    clear hcut
    go_loop [4, 5] (fun v i => ∃ k : Nat, k ≤ 8 ∧ i = .int .i64 k ∧ v = .int .i64 (numV ((B.data.toList.drop pos).take k) : Nat)) (fun _ i => 8 - (intOf i).toNat)
    case atStart => exact ⟨0, by omega, rfl, rfl⟩
    case round =>
      obtain ⟨k, hk, rfl, rfl⟩ := hrel
      by_cases h9 : k < 8
      · have hkl : pos + k < B.data.toList.length := by have := HL.out; omega
        have hkB : pos + k < B.size := by rw [← len_eq]; exact hkl
        have hsn := numV_snoc ((B.data.toList.drop pos).take k) (B.data.toList[pos + k])
        rw [← cut_snoc B.data.toList pos k hkl] at hsn
        have hle := HSUM.out k (by omega) _ hsn
        have hgt : B.data.toList[pos + k] = B[pos + k] := rfl
        rw [hgt] at hsn hle
        have HS := Lib.hid hsn
        obtain ⟨v, hv⟩ : ∃ v, v = numV ((B.data.toList.drop pos).take k) := ⟨_, rfl⟩
        rw [← hv] at hle HS ⊢
        clear hv hsn hgt hkl
        go_wp2
        go_round
        case rel => exact ⟨k + 1, by omega, by go_num, by rw [HS.out]; go_num⟩
        case measure => simp [intOf]; omega
      · obtain rfl : k = 8 := by omega
        rw [← HA.out]
        go_wp2
        refine bodyPost_ret (res_box_tmp rfl _ _ (w.heap.size + 1) zn zs zy B ((pos + 8 : Nat) : Int) 0 0 rfl ?_) rfl ⟨rfl, ?_⟩
        · exact Box.new2 w _ _ _
        · exact below2 w _ _
  | false =>
    clear hc2
    go_enter Try.func77, Try.ntmps77
    go_wp2_with fail
    clear hcut
    go_loop [4, 5] (fun v i => ∃ k : Nat, k ≤ 8 ∧ i = .int .i64 k ∧ v = .int .i64 (numV ((B.data.toList.drop pos).take k) : Nat)) (fun _ i => 8 - (intOf i).toNat)
    case atStart => exact ⟨0, by omega, rfl, rfl⟩
    case round =>
      obtain ⟨k, hk, rfl, rfl⟩ := hrel
      by_cases h9 : k < 8
      · have hkl : pos + k < B.data.toList.length := by have := HL.out; omega
        have hkB : pos + k < B.size := by rw [← len_eq]; exact hkl
        have hsn := numV_snoc ((B.data.toList.drop pos).take k) (B.data.toList[pos + k])
        rw [← cut_snoc B.data.toList pos k hkl] at hsn
        have hle := HSUM.out k (by omega) _ hsn
        have hgt : B.data.toList[pos + k] = B[pos + k] := rfl
        rw [hgt] at hsn hle
        have HS := Lib.hid hsn
        obtain ⟨v, hv⟩ : ∃ v, v = numV ((B.data.toList.drop pos).take k) := ⟨_, rfl⟩
        rw [← hv] at hle HS ⊢
        clear hv hsn hgt hkl
        go_wp2
        go_round
        case rel => exact ⟨k + 1, by omega, by go_num, by rw [HS.out]; go_num⟩
        case measure => simp [intOf]; omega
      · obtain rfl : k = 8 := by omega
        rw [← HA.out]
        go_wp2
        refine bodyPost_ret (res_box_tmp rfl _ _ (w.heap.size + 1) zn zs zy B ((pos + 8 : Nat) : Int) 0 0 rfl ?_) rfl ⟨rfl, ?_⟩
        · exact Box.new2 w _ _ _
        · exact below2 w _ _
end Go.Proofs.Ytihkadbcjeohjaa
