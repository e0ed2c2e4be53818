/-
  What the program's Put answers: a payload's form, in memory of its own, or that it is too long.
  Conditions: the bytes lie in memory that was there; they are at most 2^40.
-/
import Derived.Test.YtohnhboeipckjaaGreatDoorRecGot
namespace Go.Proofs.YtohnhboeipckjaaGreatDoor
open Go.RowKit

set_option maxHeartbeats 1000000 in
theorem put_large (A : Option Addr) (n c : Nat) (w : World) (hn : 65536 < n) :
    Calls Tryz.prog 31 #[.slice A n c] w fun e w' => e = .returned (.tuple #[.slice none 0 0, .int .i64 4]) ∧ w = w' := by
  go_enter Tryz.func31, Tryz.ntmps31
  go_wp2
  go_ret2
  exact ⟨rfl, rfl⟩

set_option maxHeartbeats 2000000 in
set_option maxRecDepth 100000 in
theorem put_any (A : Option Addr) (l : List UInt8) (c : Nat) (w : World) (hb : Byt w w.heap.size A l) (hl : l.length ≤ 65536) :
    Calls Tryz.prog 31 #[.slice A l.length c] w fun e w' => ∃ v, e = .returned (.tuple #[v, .int .i64 0]) ∧ w'.ownsRow w.heap.size 5 1 v (l.length + 13) (cellsB (putL l)) ∧ Below w.heap.size w w' := by
  obtain ⟨i0, hi0, hz0, hz1, hz2⟩ := info_parts info5S
  have HZ := Lib.hid hz2
  have hsz := sizeI_nat hl
  go_enter Tryz.func31, Tryz.ntmps31
  go_wp2_with fail
  refine (size_any _ _).mono ?_
  rw [hsz]
  rintro e W0 ⟨rfl, rfl⟩
  go_wp2_with (first
    | (refine wpList_make_own _ rfl _ _ 31 rfl w.heap.size 5 i0 _ 1 Tryz.underlying31 hi0 hz0 hz1 _ _ _ (l.length + 13) rfl rfl (by omega) (by rw [HZ.out]; omega) (by unfold maxLen; omega) (Nat.le_refl _) ?_; intro w1 hown1 hg1; have b1 : Below w.heap.size w w1 := (Below.refl _ _).grown hg1 (Nat.le_refl _) (by simp))
    | (at_builtin; refine wpList_append_byt _ rfl (.tmp 12) (.tmp 13) _ rfl w.heap.size 5 i0 _ Tryz.underlying31 hi0 hz0 hz1 hz2 rfl _ 0 [] rfl (hown1.alloc _) (w1.heap.size + 1) _ _ _ [90] rfl rfl (Byt.one w1 5 90 90 rfl) (by simp) (by have := b1.size; simp; omega) ?_; intro v2 w2 hown2 hg2 hat2; have b2 : Below w.heap.size w w2 := (b1.alloc b1.size _).grown hg2 (by have := b1.size; simp; omega) (fun k hk => (hown1.lt k hk).1)))
  have hown2' : w2.ownsRow w.heap.size 5 1 v2 ([90] : List UInt8).length (cellsB [90]) := by simpa using hown2
  clear hown1 hown2 hg1 hg2 hat2
  refine (putWord_any w.heap.size v2 [90] l.length w2 (by omega) hown2' b2.size (by simp)).mono ?_
  rintro e W3 ⟨v3, rfl, hown3, b3⟩
  have b3' := b2.trans b3
  obtain ⟨A3, c3, rfl, hc3⟩ := own_form hown3
  have hby := Byt.own hown3
  have hn3 : ([90] ++ be4 l.length : List UInt8).length = 5 := rfl
  have hcut := run_cut_from (P := Tryz.prog) W3 31 5 Tryz.underlying31 sizeOf5 A3 5 c3 1 (by omega) (by omega)
  have hbd := hby.drop (n := 1) (c := c3) (by rw [hn3]; simpa using hc3)
  rw [show (1 : Int).toNat = 1 from rfl] at hcut
  have hdr : ([90] ++ be4 l.length : List UInt8).drop 1 = be4 l.length := rfl
  rw [hdr] at hbd
  generalize (if c3 = 1 then A3 else A3.map (·.add 1)) = A4 at hcut hbd
  have HO := Lib.hid (of_any A4 (be4 l.length) (c3 - 1) W3 hbd (by simp [be4_len]))
  rw [be4_len] at HO
  have HW := Lib.hid hown3
  clear hby hbd hown3
  go_wp2_with fail
  refine HO.out.mono ?_
  rintro e W4 ⟨rfl, b4⟩
  have b4' := b3'.trans (b4.mono b3'.size)
  have hown4 := own_belowS HW.out b4
  clear HO HW
  go_wp2_with fail
  refine (putWord_any w.heap.size _ ([90] ++ be4 l.length) (crc (be4 l.length)) W4 (crc_lt _) (by rw [hn3]; exact hown4) b4'.size (by rw [hn3]; omega)).mono ?_
  rintro e W5 ⟨v5, rfl, hown5, b5⟩
  have b5' := b4'.trans b5
  clear hown4
  go_wp2_with (at_builtin; refine wpList_append_byt _ rfl (.tmp 25) (.tmp 26) _ rfl w.heap.size 5 i0 _ Tryz.underlying31 hi0 hz0 hz1 hz2 rfl _ 9 _ rfl hown5 w.heap.size _ _ _ l rfl rfl (hb.below b5') (by omega) b5'.size ?_; intro v6 w6 hown6 hg6 hat6; have b6 : Below w.heap.size w w6 := b5'.grown hg6 b5'.size (fun k hk => (hown5.lt k hk).1))
  have HO := Lib.hid (of_any A l c w6 ((hb.below b6).more b6.size) (by omega))
  have HW := Lib.hid hown6
  clear hown5 hown6 hg6 hat6
  refine HO.out.mono ?_
  rintro e W7 ⟨rfl, b7⟩
  have b7' := b6.trans (b7.mono b6.size)
  have hown7 := own_belowS HW.out b7
  rw [← cellsB_app] at hown7
  have hn7 : ([90] ++ be4 l.length ++ be4 (crc (be4 l.length)) ++ l : List UInt8).length = 9 + l.length := by simp [be4_len]; omega
  clear HW HO
  go_wp2_with fail
  refine (putWord_any w.heap.size v6 ([90] ++ be4 l.length ++ be4 (crc (be4 l.length)) ++ l) (crc l) W7 (crc_lt _) (by rw [hn7]; exact hown7) b7'.size (by rw [hn7]; omega)).mono ?_
  rintro e W8 ⟨v8, rfl, hown8, b8⟩
  have HW := Lib.hid hown8
  clear hown8
  go_wp2
  go_ret2
  refine ⟨v8, rfl, ?_, b7'.trans b8⟩
  have h := HW.out
  rw [hn7, show 9 + l.length + 4 = l.length + 13 by omega] at h
  have e : [90] ++ be4 l.length ++ be4 (crc (be4 l.length)) ++ l ++ be4 (crc l) = putL l := by simp [putL]
  rw [e] at h
  exact h
end Go.Proofs.YtohnhboeipckjaaGreatDoor
