/-
  What the program's Size, putWord and wordAt answer: how long a form is; four bytes more behind bytes, the highest first; what four bytes tell.
  Conditions: wordAt: four bytes lie behind the place, in memory that was there.
-/
import Derived.Test.YtohnhboeipckjaaGreatDoorSumSeal
import Derived.Test.YtohnhboeipckjaaGreatDoorRecMath
namespace Go.Proofs.YtohnhboeipckjaaGreatDoor
open Go.RowKit

/-- how many bytes the form of a payload of n bytes has -/
def sizeI (n : Int) : Int := if n < 0 ∨ 65536 < n then 0 else 13 + n
theorem size_any (n : Int) (w : World) : Calls Tryz.prog 50 #[.int .i64 n] w fun e w' => e = .returned (.int .i64 (sizeI n)) ∧ w = w' := by
  by_cases h0 : n < 0
  · have e : sizeI n = 0 := by unfold sizeI; rw [if_pos (.inl h0)]
    have hd : decide (n < 0) = true := by simpa using h0
    rw [e]
    go_enter Tryz.func50, Tryz.ntmps50
    go_wp2
    go_ret
    exact ⟨rfl, rfl⟩
  · have hd : decide (n < 0) = false := by simp; omega
    by_cases h1 : 65536 < n
    · have e : sizeI n = 0 := by unfold sizeI; rw [if_pos (.inr h1)]
      rw [e]
      go_enter Tryz.func50, Tryz.ntmps50
      go_wp2
      go_ret
      exact ⟨rfl, rfl⟩
    · have e : sizeI n = 13 + n := by unfold sizeI; rw [if_neg (by omega)]
      rw [e]
      go_enter Tryz.func50, Tryz.ntmps50
      go_wp2
      go_ret
      exact ⟨rfl, rfl⟩
theorem sizeI_nat {n : Nat} (h : n ≤ 65536) : sizeI (n : Int) = 13 + (n : Int) := by unfold sizeI; rw [if_neg (by omega)]

theorem Byt.four (w : World) (t : TypeId) (x0 x1 x2 x3 : Int) (b0 b1 b2 b3 : UInt8) (h0 : x0 = (b0.toNat : Int)) (h1 : x1 = (b1.toNat : Int)) (h2 : x2 = (b2.toNat : Int)) (h3 : x3 = (b3.toNat : Int)) :
    Byt (w.alloc (.cells #[.int .u8 x0, .int .u8 x1, .int .u8 x2, .int .u8 x3] t)) (w.heap.size + 1) (some ⟨w.heap.size, 0, Option.none⟩) [b0, b1, b2, b3] := fun _ => by
  refine ⟨w.heap.size, 0, rfl, by omega, fun k hk => ?_⟩
  subst h0 h1 h2 h3
  rw [cell_of_row _ _ _ _ _ _ (heap_alloc_new w _)]
  have hk' : k = 0 ∨ k = 1 ∨ k = 2 ∨ k = 3 := by simp at hk; omega
  rcases hk' with rfl | rfl | rfl | rfl <;> simp
theorem byte_top {x : Nat} (h : x < 4294967296) : (x : Int) / 16777216 = ((UInt8.ofNat (x / 16777216)).toNat : Int) := by rw [UInt8.toNat_ofNat']; omega
theorem byte_of' (q : Nat) : (q : Int) % 256 = ((UInt8.ofNat q).toNat : Int) := by rw [UInt8.toNat_ofNat']; omega

set_option maxHeartbeats 1000000 in
theorem putWord_any (base : Nat) (v : Value) (l : List UInt8) (x : Nat) (w : World) (hx : x < 4294967296) (hown : w.ownsRow base 5 1 v l.length (cellsB l)) (hbase : base ≤ w.heap.size) (hl : l.length ≤ 1099511627776) :
    Calls Tryz.prog 51 #[v, .int .u32 (x : Int)] w fun e w' => ∃ v', e = .returned v' ∧ w'.ownsRow base 5 1 v' (l.length + 4) (cellsB (l ++ be4 x)) ∧ Below base w w' := by
  obtain ⟨i0, hi0, hz0, hz1, hz2⟩ := info_parts info5S
  go_enter Tryz.func51, Tryz.ntmps51
  go_wp2_with (at_builtin; refine wpList_append_byt _ rfl (.tmp 5) (.tmp 17) _ rfl base 5 i0 _ Tryz.underlying31 hi0 hz0 hz1 hz2 rfl _ l.length _ rfl (hown.alloc _) (w.heap.size + 1) _ _ _ (be4 x) rfl rfl (Byt.four w 5 _ _ _ _ _ _ _ _ (byte_top hx) (byte_of' (x / 65536)) (byte_of' (x / 256)) (byte_of' x)) (by simp [be4_len]; omega) (by simp; omega) ?_; intro v2 w2 hown2 hg2 hat2)
  go_ret
  refine ⟨_, rfl, by rw [cellsB_app]; exact hown2, ?_⟩
  exact ((Below.refl base w).alloc hbase _).grown hg2 (by simp; omega) fun k hk => (hown.lt k hk).1

theorem word_step {t : Nat} (x : UInt8) (ht : t < 16777216) : bits .or .u32 ((t : Int) * 256) (x.toNat : Int) = ((t * 256 + x.toNat : Nat) : Int) := by
  have hx := UInt8.toNat_lt x
  have e := u32_or_nat (t * 256) x.toNat (by omega) (by omega)
  rw [nat_join 8 (t * 256) x.toNat (by omega) (by omega)] at e
  exact e
theorem valB_lt_take {l : List UInt8} (hl : l.length = 4) {k : Nat} (hk : k < 4) : valB (l.take k) < 16777216 := by
  match l, hl with
  | [a, b, c, d], _ =>
    have ha := UInt8.toNat_lt a
    have hb := UInt8.toNat_lt b
    have hc := UInt8.toNat_lt c
    have hk' : k = 0 ∨ k = 1 ∨ k = 2 ∨ k = 3 := by omega
    rcases hk' with rfl | rfl | rfl | rfl <;> simp [valB] <;> omega

theorem sizeOf5 : ∀ w, (Go.sizeOf 5).run Tryz.prog w = .ok 1 w := fun w => by
  obtain ⟨i0, hi0, _, hz1, _⟩ := info_parts info5S
  simp [Go.sizeOf, typeInfo, hi0, hz1]
/-- b[p:q] -/
theorem run_cut_pq (w : World) (b o n c p : Nat) (q : Int) (hp : (p : Int) ≤ q) (hpc : p < c) (hq : q ≤ c) :
    (Instr.slice 31 (.slice (some ⟨b, o, none⟩) n c) (some (.int .i64 (p : Int))) (some (.int .i64 q)) none).run Tryz.prog w = .ok (.slice (some ⟨b, o + p, none⟩) (q.toNat - p) (c - p)) w := by
  have ht' : Tryz.prog.underlying 31 = some (.slice (Tryz.prog.elem 31)) := by simp [Program.elem, Tryz.underlying31]
  have he : Tryz.prog.elem 31 = 5 := by simp [Program.elem, Tryz.underlying31]
  rw [run_slice_lh w 31 _ _ _ ht' .i64 .i64 _ _ (by omega) hp hq, he, sizeOf5]
  have h1 : ¬ c = p := by omega
  simp [Result.andThen, sliced, h1, Addr.add]

set_option maxHeartbeats 1000000 in
set_option maxRecDepth 100000 in
theorem wordAt_any (A : Option Addr) (l : List UInt8) (c at' : Nat) (w : World) (hb : Byt w w.heap.size A l) (h4 : at' + 4 ≤ l.length) (hc : l.length ≤ c) (hl : l.length ≤ 1099511627776) :
    Calls Tryz.prog 124 #[.slice A l.length c, .int .i64 (at' : Int)] w fun e w' => e = .returned (.int .u32 (valB ((l.drop at').take 4) : Nat)) ∧ w = w' := by
  obtain ⟨b, o, rfl, hbl, hcell⟩ := hb (ne_of_lt (show 0 < l.length by omega))
  have hm : ((l.drop at').take 4).length = 4 := by rw [List.length_take, List.length_drop]; omega
  have hcs : ∀ k (h : k < ((l.drop at').take 4).length), w.cell? ⟨b, o + at' + k, none⟩ = some (.int .u8 (((l.drop at').take 4)[k].toNat : Int)) := fun k h => by
    rw [List.getElem_take, List.getElem_drop, Nat.add_assoc]
    exact hcell (at' + k) (by omega)
  have hs := run_cut_pq w b o l.length c at' ((at' : Int) + 4) (by omega) (by omega) (by omega)
  rw [show ((at' : Int) + 4).toNat - at' = 4 by omega] at hs
  generalize (l.drop at').take 4 = m at *
  have HC := Lib.hid hcs
  clear hcell hb hcs
  go_enter Tryz.func124, Tryz.ntmps124
  go_wp2
  go_loop [5, 14] (fun v i => ∃ k : Nat, k ≤ 4 ∧ i = .int .i64 k ∧ v = .int .u32 (valB (m.take k) : Nat)) (fun _ i => 4 - (intOf i).toNat)
  case atStart => exact ⟨0, by omega, rfl, rfl⟩
  case round =>
    obtain ⟨k, hk, rfl, rfl⟩ := hrel
    by_cases h8 : k < 4
    · have hc1 := HC.out k (by omega)
      have h1 := valB_take m k (by omega)
      have h2 := valB_lt_take hm h8
      obtain ⟨x, hx⟩ : ∃ x, x = m[k] := ⟨_, rfl⟩
      rw [← hx] at hc1 h1
      obtain ⟨t, ht⟩ : ∃ t, t = valB (m.take k) := ⟨_, rfl⟩
      rw [← ht] at h1 h2 ⊢
      have H1 := Lib.hid h1
      clear hx ht h1
      have hu := UInt8.toNat_lt x
      have hw := word_step x h2
      go_wp2
      go_round
      case rel => exact ⟨k + 1, by omega, by go_num, by rw [H1.out]; go_num⟩
      case measure => simp [intOf]; omega
    · obtain rfl : k = 4 := by omega
      rw [show m.take 4 = m by rw [← hm, List.take_length]]
      go_wp2
      go_ret
      exact ⟨rfl, rfl⟩
end Go.Proofs.YtohnhboeipckjaaGreatDoor
