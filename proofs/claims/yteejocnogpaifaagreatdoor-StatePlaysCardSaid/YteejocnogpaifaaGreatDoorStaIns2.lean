/-
  What slices.Insert answers of one definition where there is no room, and on every way.
  Conditions: the row is the caller's own, of moderate length; what is put lies in another block.
-/
import Derived.Test.YteejocnogpaifaaGreatDoorStaIns
namespace Go.Proofs.YteejocnogpaifaaGreatDoor.Tt
open Go.RowKit Go.Lib
open Go.Proofs.YteejocnogpaifaaGreatDoor.El
open Go.Proofs.YteejocnogpaifaaGreatDoor.Df
open Go.Proofs.YteejocnogpaifaaGreatDoor.Bo (P Made ret_int ret_bool)
open Go.Proofs.YteejocnogpaifaaGreatDoor.Sa (Sg Cm)
open Go.Proofs.YteejocnogpaifaaGreatDoor.Co (Ev Mod)
section
variable (R : Nat) (A : Option Addr) (n c : Nat) (dx : List DX) (i vb : Nat) (y : DX) (w : World) (hn : n = dx.length) (hb : n ≤ 1000000) (hR : R ≤ w.heap.size)
  (ho : w.ownsRow R 33 3 (.slice A n c) n (dx.flatMap DX.cells)) (hv : Box w vb 33 #[.string y.nm, .int .i64 y.dl, .slice y.A y.n y.c]) (hne : (Value.slice A n c).ownBlock ≠ some vb)
include hn hb hR ho hv hne
set_option maxHeartbeats 4000000 in
set_option maxRecDepth 100000 in
theorem insert_grow (hi : i < n) (hroom : c < n + 1) : Calls Tryz.prog 42 #[.slice A n c, .int .i64 (i : Int), .slice (some ⟨vb, 0, none⟩) 1 1] w (InsIs w R n (Value.slice A n c).ownBlock ((dx.take i ++ y :: dx.drop i).flatMap DX.cells)) := by
  have hcap := own_cap ho
  have hnc : n ≤ c := hcap.1
  obtain ⟨q, cur, rfl, hq, hbx, hsz, htk⟩ := own_at ho (by omega)
  have hvq : vb ≠ q := fun e => hne (by rw [e]; rfl)
  have hz : ∀ w, (Go.sizeOf 33).run Tryz.prog w = .ok 3 w := fun w => by kernel_rfl
  have hsh : (Tryz.prog.info? 33).map (·.size) = some 3 := by kernel_rfl
  obtain ⟨i0, hi0, hz0, hzs, hzb⟩ := info_of infoD
  have hX : (dx.flatMap DX.cells).length = n * 3 := by rw [flat_len dx_len, hn]
  have hdl : ((dx.flatMap DX.cells).drop (i * 3)).length = (n - i) * 3 := by rw [List.length_drop, hX]; omega
  have htl : ((dx.flatMap DX.cells).take (i * 3)).length = i * 3 := by rw [List.length_take, hX]; omega
  have hcells := ho.cells (g := q) rfl
  have hone := flat_one dx_one dx
  have hkk : (n : Int) + 1 - (i : Int) = ((n + 1 - i : Nat) : Int) := by omega
  have hik : i + (n + 1 - i) = n + 1 := by omega
  have hold : (Builtin.firstCells i0.size i (.slice (some ⟨q, 0, none⟩) i c)).run Tryz.prog w.drew = .ok ((dx.flatMap DX.cells).take (i * 3)).toArray w.drew := by
    rw [hzs]
    exact run_firstCells_some w.drew 3 i ⟨q, 0, none⟩ i c ((dx.flatMap DX.cells).take (i * 3)) htl (fun j v hj => by
      rw [List.getElem?_take] at hj
      split at hj
      · exact hcells j v hj
      · cases hj)
  have hrz : ∀ ty, (Builtin.append_ #[24, 3] ty #[.slice (some ⟨q, 0, none⟩) i c, .int .i64 ((n : Int) + 1 - (i : Int))]).run Tryz.prog w =
      .ok (.slice (some ⟨w.heap.size, 0, none⟩) (n + 1) (grownCap w (n + 1) c 33)) (w.drew.alloc (.cells (((dx.flatMap DX.cells).take (i * 3)).toArray ++ Builtin.zeroCells zeroD.cells (n + 1 - i) ++ Builtin.zeroCells zeroD.cells (grownCap w (n + 1) c 33 - (n + 1))) 33)) := fun ty => by
    have h := Lib.run_append_grow_zeros w 24 3 ty 33 i0 _ .i64 .i64 Tryz.underlying24 Tryz.underlying3 hi0 hz0 (some ⟨q, 0, none⟩) i c ((dx.flatMap DX.cells).take (i * 3)) hold (n + 1 - i) (by omega) (by omega) (by omega) (by omega) (by rw [hzb]; omega) (by rw [hzb, hik]; exact growslice_fits hroom (by omega))
    rw [hik] at h
    rw [hkk]
    exact h
  have hGn : n + 1 ≤ grownCap w (n + 1) c 33 := grownCap_ge w _ _ _
  have hG63 : grownCap w (n + 1) c 33 ≤ maxLen := grownCap_le_maxLen w (n + 1) c 33 (by unfold maxLen; omega)
  generalize grownCap w (n + 1) c 33 = G at hrz hGn hG63
  obtain ⟨ROW, hROW⟩ : ∃ ROW : Array Value, ROW = ((dx.flatMap DX.cells).take (i * 3)).toArray ++ Builtin.zeroCells zeroD.cells (n + 1 - i) ++ Builtin.zeroCells zeroD.cells (G - (n + 1)) := ⟨_, rfl⟩
  rw [← hROW] at hrz
  have hRs : ROW.size = G * 3 := by
    rw [hROW, Array.size_append, Array.size_append, zero_size, zero_size, List.size_toArray, htl]
    omega
  have hRt : ROW.toList.take (i * 3) = (dx.flatMap DX.cells).take (i * 3) := by
    rw [hROW, Array.toList_append, Array.toList_append, List.append_assoc, List.take_append_of_le_length (by simp [htl]), List.take_of_length_le (by simp [htl])]
  have hbN : q ≠ w.heap.size := by have := hbx.lt; omega
  have hvN : vb ≠ w.heap.size := by have := hv.lt; omega
  have hbx1 : ∀ W : World, W.heap = (w.drew.alloc (.cells ROW 33)).heap → Box W w.heap.size 33 ROW := fun W hW => by
    unfold Box
    rw [hW]
    exact Box.new w.drew 33 ROW
  have hold1 : ∀ W : World, W.heap = (w.drew.alloc (.cells ROW 33)).heap → ∀ k, k < w.heap.size → W.heap[k]? = w.heap[k]? := fun W hW k hk => by
    rw [hW]
    exact Below.heap_alloc w.drew _ k hk
  obtain ⟨cur1, hcur1⟩ : ∃ cur1, cur1 = spl ROW (i * 3) y.cells := ⟨_, rfl⟩
  have hs1 : cur1.size = G * 3 := by rw [hcur1, spl_size (by rw [hRs]; show i * 3 + 3 ≤ _; omega), hRs]
  have hcpA : ∀ (W : World), W.heap = (w.drew.alloc (.cells ROW 33)).heap → ∀ ty dc, (Builtin.copy_ #[24, 24] ty #[.slice (some ⟨w.heap.size, i * 3, none⟩) (n + 1 - i) dc, .slice (some ⟨vb, 0, none⟩) 1 1]).run Tryz.prog W = .ok (goInt 1) (W.setRow w.heap.size cur1) := fun W hW ty dc => by
    have hmin : Nat.min 1 (n + 1 - i) = 1 := by simp only [Nat.min_def]; split <;> omega
    have := run_copy_mid (Q := Tryz.prog) W 24 24 ty 33 33 3 w.heap.size (i * 3) (n + 1 - i) dc ⟨vb, 0, none⟩ 1 1 y.cells ROW Tryz.underlying24 hsh (by rw [hmin]; rfl)
      (fun j v hj => by
        have hb2 : Box W vb 33 #[.string y.nm, .int .i64 y.dl, .slice y.A y.n y.c] := (hold1 W hW vb hv.lt).trans hv
        rw [Addr.add_lit, Nat.zero_add, hb2.cell j]
        simpa [DX.cells] using hj) (hbx1 W hW) (by rw [hRs]; show i * 3 + 3 ≤ _; omega) (dx_one y)
    rw [hmin, ← hcur1] at this
    exact this
  have hcpB : ∀ (W V : World), V.heap = (w.drew.alloc (.cells ROW 33)).heap → W.heap = (V.setRow w.heap.size cur1).heap → ∀ ty dc sc, (Builtin.copy_ #[24, 24] ty #[.slice (some ⟨w.heap.size, (i + 1) * 3, none⟩) (n - i) dc, .slice (some ⟨q, i * 3, none⟩) (n - i) sc]).run Tryz.prog W = .ok (goInt ((n - i : Nat) : Int)) (W.setRow w.heap.size (spl cur1 ((i + 1) * 3) ((dx.flatMap DX.cells).drop (i * 3)))) := fun W V hV hW ty dc sc => by
    have hmin : Nat.min (n - i) (n - i) = n - i := by simp
    have hbV : Box (V.setRow w.heap.size cur1) w.heap.size 33 cur1 := Sa.box_row (hbx1 V hV) cur1
    have := run_copy_mid (Q := Tryz.prog) W 24 24 ty 33 33 3 w.heap.size ((i + 1) * 3) (n - i) dc ⟨q, i * 3, none⟩ (n - i) sc ((dx.flatMap DX.cells).drop (i * 3)) cur1 Tryz.underlying24 hsh (by rw [hmin, hdl])
      (fun j v hj => by
        rw [List.getElem?_drop] at hj
        have h1 := hcells (i * 3 + j) v hj
        rw [Addr.add_lit, Nat.zero_add] at h1
        rw [Addr.add_lit]
        have hbl := hbx.lt
        refine (World.cell?_of_block (w := w) (w' := W) (a := ⟨q, i * 3 + j, none⟩) ?_).trans h1
        show W.heap[q]? = w.heap[q]?
        rw [hW, setRow_other V w.heap.size q cur1 hbN]
        exact hold1 V hV q hbl) (by rw [hW]; exact hbV) (by rw [hdl, hs1]; omega) (fun v hv => hone v (List.mem_of_mem_drop hv))
    rw [hmin] at this
    exact this
  have HEND : Hid (∀ (W V : World), V.heap = (w.drew.alloc (.cells ROW 33)).heap → W.heap = (V.setRow w.heap.size cur1).heap → (W.setRow w.heap.size (spl cur1 ((i + 1) * 3) ((dx.flatMap DX.cells).drop (i * 3)))).ownsRow R 33 3 (.slice (some ⟨w.heap.size, 0, none⟩) (n + 1) G) (n + 1) ((dx.take i ++ y :: dx.drop i).flatMap DX.cells)) := Lib.hid fun W V hV hW => by
    have hbV : Box W w.heap.size 33 cur1 := by
      unfold Box
      rw [hW]
      exact Sa.box_row (hbx1 V hV) cur1
    have hb2 := Sa.box_row hbV (spl cur1 ((i + 1) * 3) ((dx.flatMap DX.cells).drop (i * 3)))
    refine ⟨by rw [flat_len dx_len]; simp; omega, .inr ⟨w.heap.size, G, _, rfl, hR, hb2, hGn, hG63, by rw [spl_size (by rw [hdl, hs1]; omega), hs1], ?_⟩⟩
    rw [← ins_flat]
    have := ins_grow (L := ROW.toList) (X := dx.flatMap DX.cells) (Y := y.cells) (a := i * 3) (N := n * 3) hRt hX rfl (by omega) (by rw [Array.length_toList, hRs]; omega)
    rw [show (n + 1) * 3 = n * 3 + 3 by omega, hcur1]
    rw [show i * 3 + 3 = (i + 1) * 3 by omega] at this
    exact this
  have HGR : Hid (∀ (W V : World) (cs : Array Value), V.heap = (w.drew.alloc (.cells ROW 33)).heap → W.heap = (V.setRow w.heap.size cur1).heap → W.os = w.os → W.tape = w.tape → W.output = w.output → w.grownBy (W.setRow w.heap.size cs) (some q)) := Lib.hid fun W V cs hV hW h1 h2 h3 =>
    ⟨h1, h2, h3, by rw [setRow_size, hW, setRow_size, hV]; simp, fun k hk _ => by
      rw [setRow_other W w.heap.size k cs (by omega), hW, setRow_other V w.heap.size k cur1 (by omega)]
      exact hold1 V hV k hk⟩
  have hG9 : G ≤ 9223372036854775807 := by unfold maxLen at hG63; omega
  have hcN : c ≤ 9223372036854775807 := by have := hcap.2; unfold maxLen at this; omega
  generalize (dx.take i ++ y :: dx.drop i).flatMap DX.cells = XS at *
  generalize (dx.flatMap DX.cells).drop (i * 3) = DS at *
  have hw1 : IntKind.i64.wrap ((i : Int) + 1) = (i : Int) + 1 := by rw [IntKind.wrap_i64]; omega
  have hb1 : (0 : Int) ≤ (i : Int) + 1 := by omega
  have htn : ((i : Int) + 1).toNat = i + 1 := by omega
  have hb2 : ¬ (G = i + 1) := by omega
  have hb3 : (i : Int) ≤ (n : Int) := by omega
  have hb4 : ¬ (c = i) := by omega
  have hb5 : ¬ (G = i) := by omega
  have hin : i ≤ n := by omega
  have hz2 : ¬ ((i : Int) = (n : Int)) := by omega
  have hz3 : (c : Int) < (n : Int) + 1 := by omega
  have mixed : Tryz.prog.follows .mixedOrders = true := by kernel_rfl
  have hE : ((w.alloc (.cells ROW 33)).drew).heap = (w.drew.alloc (.cells ROW 33)).heap := rfl
  have hF : ((((w.alloc (.cells ROW 33)).drew).setRow w.heap.size cur1).drew).heap = (((w.alloc (.cells ROW 33)).drew).setRow w.heap.size cur1).heap := rfl
  clear hX hdl htl hcells hone hs1 hbx1 hsz htk hn ho hv hne hcur1 hbx hkk hik hold hROW hRs hRt hold1 hcap
  go_enter Tryz.func42, Tryz.ntmps42
  go_wp2_with (first
    | (at_builtin; refine Lib.wpList_append_run _ rfl _ _ _ _ rfl _ _ rfl rfl _ _ (hrz _) ?_)
    | (at_builtin; refine wpList_copy_runI _ rfl _ _ 24 24 rfl _ _ rfl rfl (hcpA _ hE _ _) ?_))
  go_region_law_o (refine step_copy_runI rfl _ _ 24 24 rfl (.slice (some ⟨w.heap.size, (i + 1) * 3, none⟩) (n - i) (G - (i + 1))) (.slice (some ⟨q, i * 3, none⟩) (n - i) (c - i)) (by simp [Act.eval, Act.put]) (by simp [Act.eval, Act.put]) (hcpB _ _ hE hF _ _ _) ?_)
  go_wp2
  go_ret
  exact ⟨_, _, rfl, HEND.out _ _ hE hF, HGR.out _ _ _ hE hF rfl rfl rfl⟩
theorem insert_any (hi : i ≤ n) : Calls Tryz.prog 42 #[.slice A n c, .int .i64 (i : Int), .slice (some ⟨vb, 0, none⟩) 1 1] w (InsIs w R n (Value.slice A n c).ownBlock ((dx.take i ++ y :: dx.drop i).flatMap DX.cells)) := by
  rcases Nat.lt_or_ge i n with h | h
  · rcases Nat.lt_or_ge c (n + 1) with h2 | h2
    · exact insert_grow R A n c dx i vb y w hn hb hR ho hv hne h h2
    · exact insert_room R A n c dx i vb y w hn hb hR ho hv hne h h2
  · have : i = n := by omega
    subst this
    exact insert_end R A i c dx vb y w hn hb hR ho hv hne
end
end Go.Proofs.YteejocnogpaifaaGreatDoor.Tt
