/-
  What slices.Insert answers of one definition put into a row of one's own: on each of its four ways a row of one's own that has one more.
  Conditions: the row is the caller's own, of moderate length; what is put lies in another block.
-/
import Derived.Test.YteejocnogpaifaaGreatDoorStaOwn
import Derived.Shelf.Spec.SlicesInsertGrow
namespace Go.Proofs.YteejocnogpaifaaGreatDoor.Tt
open Go.RowKit Go.Lib
open Go.Proofs.YteejocnogpaifaaGreatDoor.El
open Go.Proofs.YteejocnogpaifaaGreatDoor.Df
open Go.Proofs.YteejocnogpaifaaGreatDoor.Bo (P Made ret_int ret_bool)
open Go.Proofs.YteejocnogpaifaaGreatDoor.Sa (Sg Cm)
open Go.Proofs.YteejocnogpaifaaGreatDoor.Co (Ev Mod)

/-- a copy into the midst of a block, of structs of k cells -/
theorem run_copy_mid {Q : Program} (w : World) (dT sT ty elem t : TypeId) (k b o dLen dCap : Nat) (a : Addr) (sLen sCap : Nat) (cs : List Value) (cur : Array Value)
    (hu : Q.underlying dT = some (.slice elem)) (hs : (Q.info? elem).map (·.size) = some k) (hn : cs.length = Nat.min sLen dLen * k)
    (hsrc : ∀ j v, cs[j]? = some v → w.cell? (a.add j) = some v) (hb : w.heap[b]? = some (.cells cur t (0, 0))) (hf : o + cs.length ≤ cur.size) (h1 : ∀ v ∈ cs, v.oneCell' = true) :
    (Builtin.copy_ #[dT, sT] ty #[.slice (some ⟨b, o, none⟩) dLen dCap, .slice (some a) sLen sCap]).run Q w = .ok (goInt (Nat.min sLen dLen)) (w.setRow b (spl cur o cs)) := by
  have hl := run_loadCells_list (P := Q) w a cs hsrc
  have hst := run_storeCells_at Q b o t cs 0 cur w hb (by simpa using hf) h1
  cases hq : Q.info? elem with
  | none => simp [hq] at hs
  | some i =>
    have hi : i.size = k := by simpa [hq] using hs
    simp only [Nat.add_zero] at hst
    simp [Builtin.copy_, run_underlying hu, Builtin.lenOf, Builtin.firstCells, sizeOf, typeInfo, hq, hi, ← hn, hl, hst, spl]
theorem ins_shift {L X Y : List Value} {a N : Nat} (hX : L.take N = X) (hY : Y.length = 3) (ha : a ≤ N) (hN : N + 3 ≤ L.length) :
    (((L.take (a + 3) ++ X.drop a ++ L.drop (a + 3 + (X.drop a).length)).take a ++ Y ++ (L.take (a + 3) ++ X.drop a ++ L.drop (a + 3 + (X.drop a).length)).drop (a + Y.length)).take (N + 3)) = X.take a ++ Y ++ X.drop a := by
  have hXl : X.length = N := by rw [← hX, List.length_take]; omega
  have hd : (X.drop a).length = N - a := by rw [List.length_drop, hXl]
  have h3 : (L.take (a + 3)).length = a + 3 := by rw [List.length_take]; omega
  have e1 : (L.take (a + 3) ++ X.drop a ++ L.drop (a + 3 + (X.drop a).length)).take a = X.take a := by
    rw [List.append_assoc, List.take_append_of_le_length (by omega), List.take_take, ← hX, List.take_take]
    congr 1
    omega
  have e2 : (L.take (a + 3) ++ X.drop a ++ L.drop (a + 3 + (X.drop a).length)).drop (a + Y.length) = X.drop a ++ L.drop (a + 3 + (X.drop a).length) := by
    rw [hY, List.append_assoc, List.drop_append, List.drop_eq_nil_of_le (by omega), List.nil_append, h3, Nat.sub_self, List.drop_zero]
  rw [e1, e2, ← List.append_assoc]
  have hl : (X.take a ++ Y ++ X.drop a).length = N + 3 := by
    simp only [List.length_append, List.length_take, hY, hd]
    omega
  rw [← hl, List.take_left]
theorem ins_grow {L X Y : List Value} {a N : Nat} (hX : L.take a = X.take a) (hXl : X.length = N) (hY : Y.length = 3) (ha : a ≤ N) (hN : N + 3 ≤ L.length) :
    (((L.take a ++ Y ++ L.drop (a + Y.length)).take (a + 3) ++ X.drop a ++ (L.take a ++ Y ++ L.drop (a + Y.length)).drop (a + 3 + (X.drop a).length)).take (N + 3)) = X.take a ++ Y ++ X.drop a := by
  have hd : (X.drop a).length = N - a := by rw [List.length_drop, hXl]
  have h3 : (L.take a ++ Y).length = a + 3 := by rw [List.length_append, List.length_take, hY]; omega
  have e1 : (L.take a ++ Y ++ L.drop (a + Y.length)).take (a + 3) = X.take a ++ Y := by
    rw [← h3, List.take_left, hX]
  rw [e1]
  have hl : (X.take a ++ Y ++ X.drop a).length = N + 3 := by
    simp only [List.length_append, List.length_take, hY, hd]
    omega
  rw [← hl, List.take_left]
theorem ins_flat (dx : List DX) (y : DX) (i : Nat) : (dx.flatMap DX.cells).take (i * 3) ++ y.cells ++ (dx.flatMap DX.cells).drop (i * 3) = (dx.take i ++ y :: dx.drop i).flatMap DX.cells := by
  rw [flat_take dx_len, flat_drop dx_len, List.flatMap_append, List.flatMap_cons, List.append_assoc]
theorem zero_size (n : Nat) : (Builtin.zeroCells zeroD.cells n).size = n * 3 := by simp [Builtin.zeroCells, zeroD, Value.cells]
/-- a row of one's own that has one more -/
def InsIs (w : World) (R n : Nat) (row : Option Nat) (xs : List Value) (e : Ending) (w' : World) : Prop :=
  ∃ A' c', e = .returned (.slice A' (n + 1) c') ∧ w'.ownsRow R 33 3 (.slice A' (n + 1) c') (n + 1) xs ∧ w.grownBy w' row
section
variable (R : Nat) (A : Option Addr) (n c : Nat) (dx : List DX) (i vb : Nat) (y : DX) (w : World) (hn : n = dx.length) (hb : n ≤ 1000000) (hR : R ≤ w.heap.size)
  (ho : w.ownsRow R 33 3 (.slice A n c) n (dx.flatMap DX.cells)) (hv : Box w vb 33 #[.string y.nm, .int .i64 y.dl, .slice y.A y.n y.c]) (hne : (Value.slice A n c).ownBlock ≠ some vb)
include hn hb hR ho hv hne
set_option maxHeartbeats 4000000 in
set_option maxRecDepth 100000 in
theorem insert_end : Calls Tryz.prog 42 #[.slice A n c, .int .i64 (n : Int), .slice (some ⟨vb, 0, none⟩) 1 1] w (InsIs w R n (Value.slice A n c).ownBlock ((dx.take n ++ y :: dx.drop n).flatMap DX.cells)) := by
  obtain ⟨i0, hi0, hz0, hz1, hz2⟩ := info_of infoD
  have hcap := own_cap ho
  unfold maxLen at hcap
  have HO := Lib.hid ho
  have HF : Hid ((dx.take n ++ y :: dx.drop n).flatMap DX.cells = dx.flatMap DX.cells ++ y.cells) := Lib.hid (by rw [hn, List.take_length, List.drop_length, List.flatMap_append, List.flatMap_cons]; simp)
  generalize (dx.take n ++ y :: dx.drop n).flatMap DX.cells = XS at *
  have HV : Hid (∀ j u, y.cells[j]? = some u → w.cell? ((⟨vb, 0, none⟩ : Addr).add j) = some u) := Lib.hid fun j u hj => by
    rw [Addr.add_lit, Nat.zero_add, hv.cell j]
    simpa [DX.cells] using hj
  have hc63 : c ≤ 9223372036854775807 := by omega
  have hz : ∀ w, (Go.sizeOf 33).run Tryz.prog w = .ok 3 w := fun w => by kernel_rfl
  clear hn ho hv
  cases A with
  | none =>
    obtain ⟨rfl, rfl⟩ := own_none HO.out
    go_enter Tryz.func42, Tryz.ntmps42
    go_wp2_with (at_builtin; refine wpList_append_own _ rfl (.tmp 23) (.tmp 24) 24 rfl R 33 i0 zeroD 3 48 Tryz.underlying24 hi0 hz0 hz1 hz2 rfl (by decide) _ 0 _ rfl HO.out ⟨vb, 0, none⟩ 1 1 y.cells rfl rfl HV.out (dx_one y) (by unfold maxLen; omega) (by omega) hR ?_; intro v1 w1 hown1 hgrow1 _; obtain ⟨A1, c1, rfl⟩ := own_form hown1; have HO1 := Lib.hid hown1; have HG1 := Lib.hid hgrow1; clear hown1 hgrow1)
    go_ret
    exact ⟨A1, c1, rfl, by rw [HF.out]; exact HO1.out, HG1.out⟩
  | some a =>
    obtain ⟨g, o, sp⟩ := a
    go_enter Tryz.func42, Tryz.ntmps42
    go_wp2_with (at_builtin; refine wpList_append_own _ rfl (.tmp 23) (.tmp 24) 24 rfl R 33 i0 zeroD 3 48 Tryz.underlying24 hi0 hz0 hz1 hz2 rfl (by decide) _ n _ rfl HO.out ⟨vb, 0, none⟩ 1 1 y.cells rfl rfl HV.out (dx_one y) (by unfold maxLen; omega) (by omega) hR ?_; intro v1 w1 hown1 hgrow1 _; obtain ⟨A1, c1, rfl⟩ := own_form hown1; have HO1 := Lib.hid hown1; have HG1 := Lib.hid hgrow1; clear hown1 hgrow1)
    all_goals
      go_ret
      exact ⟨A1, c1, rfl, by rw [HF.out]; exact HO1.out, HG1.out⟩
variable (hi : i < n)
include hi
set_option maxHeartbeats 4000000 in
set_option maxRecDepth 100000 in
theorem insert_room (hroom : n + 1 ≤ c) : Calls Tryz.prog 42 #[.slice A n c, .int .i64 (i : Int), .slice (some ⟨vb, 0, none⟩) 1 1] w (InsIs w R n (Value.slice A n c).ownBlock ((dx.take i ++ y :: dx.drop i).flatMap DX.cells)) := by
  have _hR := hR
  have hcap := own_cap ho
  unfold maxLen at hcap
  have hc63 : c ≤ 9223372036854775807 := by omega
  obtain ⟨q, cur, rfl, hq, hbx, hsz, htk⟩ := own_at ho (by omega)
  have hvq : vb ≠ q := fun e => hne (by rw [e]; rfl)
  have hz : ∀ w, (Go.sizeOf 33).run Tryz.prog w = .ok 3 w := fun w => by kernel_rfl
  have hsh : (Tryz.prog.info? 33).map (·.size) = some 3 := by kernel_rfl
  have hsa : w.shape? vb = some (33, 3) := by unfold World.shape?; rw [show w.heap[vb]? = _ from hv]; rfl
  have hsb : w.shape? q = some (33, cur.size) := by unfold World.shape?; rw [show w.heap[q]? = _ from hbx]
  have hov : ∀ lb cb, (callFunc 75 #[.slice (some ⟨vb, 0, none⟩) 1 1, .slice (some ⟨q, (i + 1) * 3, none⟩) lb cb]).run Tryz.prog w = .ok (.value (.bool false)) w := fun lb cb => by
    rw [run_callFunc_extern Tryz.func75 (by kernel_rfl) (by kernel_rfl) (by kernel_rfl) (e := Extern.SlicesOverlaps.overlaps #[24, 24] #[4]) (by kernel_rfl),
      Lib.run_overlaps_apart w 24 4 33 Tryz.underlying24 3 hz ⟨vb, 0, none⟩ ⟨q, (i + 1) * 3, none⟩ 1 1 lb cb hvq 33 33 3 cur.size hsa hsb (by omega) (hv.frozen 0) (hv.frozen 3)]
    rfl
  have hX : (dx.flatMap DX.cells).length = n * 3 := by rw [flat_len dx_len, hn]
  have hdl : ((dx.flatMap DX.cells).drop (i * 3)).length = (n - i) * 3 := by rw [List.length_drop, hX]; omega
  have hcells := ho.cells (g := q) rfl
  have hone := flat_one dx_one dx
  have hcp1 : ∀ ty dc sc, (Builtin.copy_ #[24, 24] ty #[.slice (some ⟨q, (i + 1) * 3, none⟩) (n - i) dc, .slice (some ⟨q, i * 3, none⟩) (n + 1 - i) sc]).run Tryz.prog w.drew = .ok (goInt ((n - i : Nat) : Int)) (w.drew.setRow q (spl cur ((i + 1) * 3) ((dx.flatMap DX.cells).drop (i * 3)))) := fun ty dc sc => by
    have hmin : Nat.min (n + 1 - i) (n - i) = n - i := by simp only [Nat.min_def]; split <;> omega
    have := run_copy_mid (Q := Tryz.prog) w.drew 24 24 ty 33 33 3 q ((i + 1) * 3) (n - i) dc ⟨q, i * 3, none⟩ (n + 1 - i) sc ((dx.flatMap DX.cells).drop (i * 3)) cur Tryz.underlying24 hsh (by rw [hmin, hdl])
      (fun j v hj => by
        rw [Addr.add_lit]
        rw [List.getElem?_drop] at hj
        have := hcells (i * 3 + j) v hj
        rw [Addr.add_lit, Nat.zero_add] at this
        exact this) hbx (by rw [hdl, hsz]; omega) (fun v hv => hone v (List.mem_of_mem_drop hv))
    rw [hmin] at this
    exact this
  obtain ⟨cur1, hcur1⟩ : ∃ cur1, cur1 = spl cur ((i + 1) * 3) ((dx.flatMap DX.cells).drop (i * 3)) := ⟨_, rfl⟩
  have hs1 : cur1.size = c * 3 := by rw [hcur1, spl_size (by rw [hdl, hsz]; omega), hsz]
  rw [← hcur1] at hcp1
  have hbx1 : Box (w.drew.setRow q cur1) q 33 cur1 := Sa.box_row (show Box w.drew q 33 cur from hbx) cur1
  have hcp2 : ∀ (W : World), W.heap = (w.drew.setRow q cur1).heap → ∀ ty dc, (Builtin.copy_ #[24, 24] ty #[.slice (some ⟨q, i * 3, none⟩) (n + 1 - i) dc, .slice (some ⟨vb, 0, none⟩) 1 1]).run Tryz.prog W = .ok (goInt 1) (W.setRow q (spl cur1 (i * 3) y.cells)) := fun W hW ty dc => by
    have hmin : Nat.min 1 (n + 1 - i) = 1 := by simp only [Nat.min_def]; split <;> omega
    have := run_copy_mid (Q := Tryz.prog) W 24 24 ty 33 33 3 q (i * 3) (n + 1 - i) dc ⟨vb, 0, none⟩ 1 1 y.cells cur1 Tryz.underlying24 hsh (by rw [hmin]; rfl)
      (fun j v hj => by
        have hb2 : Box W vb 33 #[.string y.nm, .int .i64 y.dl, .slice y.A y.n y.c] := by
          unfold Box
          rw [hW]
          exact (setRow_other w.drew q vb cur1 hvq).trans hv
        rw [Addr.add_lit, Nat.zero_add, hb2.cell j]
        simpa [DX.cells] using hj) (by rw [hW]; exact hbx1) (by rw [hs1]; show i * 3 + 3 ≤ _; omega) (dx_one y)
    rw [hmin] at this
    exact this
  have HEND : Hid (((w.drew.setRow q cur1).setRow q (spl cur1 (i * 3) y.cells)).ownsRow R 33 3 (.slice (some ⟨q, 0, none⟩) (n + 1) c) (n + 1) ((dx.take i ++ y :: dx.drop i).flatMap DX.cells)) := Lib.hid (by
    have hb2 := Sa.box_row hbx1 (spl cur1 (i * 3) y.cells)
    refine ⟨by rw [flat_len dx_len]; simp; omega, .inr ⟨q, c, _, rfl, hq, hb2, by omega, by unfold maxLen; exact hcap.2, by rw [spl_size (by rw [hs1]; show i * 3 + 3 ≤ _; omega), hs1], ?_⟩⟩
    rw [← ins_flat]
    have := ins_shift (L := cur.toList) (X := dx.flatMap DX.cells) (Y := y.cells) (a := i * 3) (N := n * 3) htk rfl (by omega) (by rw [Array.length_toList, hsz]; omega)
    rw [show (n + 1) * 3 = n * 3 + 3 by omega, hcur1]
    rw [show i * 3 + 3 = (i + 1) * 3 by omega] at this
    exact this)
  have HGR : Hid (w.grownBy ((w.drew.setRow q cur1).setRow q (spl cur1 (i * 3) y.cells)) (some q)) := Lib.hid
    ⟨rfl, rfl, rfl, by rw [setRow_size, setRow_size]; exact Nat.le_refl _, fun k _ hk => (setRow_other _ q k _ (fun e => hk (by rw [e]))).trans (setRow_other w.drew q k _ (fun e => hk (by rw [e])))⟩
  generalize (dx.take i ++ y :: dx.drop i).flatMap DX.cells = XS at *
  generalize hW1 : w.drew.setRow q cur1 = W1 at *
  have hcp2' := hcp2 W1 rfl
  have hw1 : IntKind.i64.wrap ((i : Int) + 1) = (i : Int) + 1 := by rw [IntKind.wrap_i64]; omega
  have hb1 : (0 : Int) ≤ (i : Int) + 1 := by omega
  have htn : ((i : Int) + 1).toNat = i + 1 := by omega
  have hb2 : ¬ (c = i + 1) := by omega
  have hb3 : (i : Int) ≤ (n : Int) + 1 := by omega
  have hb4 : ¬ (c = i) := by omega
  have hin : i ≤ n := by omega
  have hz2 : ¬ ((i : Int) = (n : Int)) := by omega
  have hz3 : ¬ ((c : Int) < (n : Int) + 1) := by omega
  have mixed : Tryz.prog.follows .mixedOrders = true := by kernel_rfl
  clear hX hdl hcells hone hs1 hbx1 hsz htk hsa hsb hcp2 hn ho hv hne hcur1 hW1 hbx
  go_enter Tryz.func42, Tryz.ntmps42
  go_wp2_with (simp only [hov])
  go_region_law_o (refine step_copy_runI rfl _ _ 24 24 rfl _ _ (by simp [Act.eval, Act.put]) (by simp [Act.eval, Act.put]) (hcp1 _ _ _) ?_)
  go_wp2_with (at_builtin; refine wpList_copy_runI _ rfl _ _ 24 24 rfl _ _ rfl rfl (hcp2' _ _) ?_)
  go_ret
  exact ⟨_, _, rfl, HEND.out, HGR.out⟩
end
end Go.Proofs.YteejocnogpaifaaGreatDoor.Tt
