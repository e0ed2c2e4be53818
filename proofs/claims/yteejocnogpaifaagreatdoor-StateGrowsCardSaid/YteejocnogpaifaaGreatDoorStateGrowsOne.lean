/-
  The statement StateGrowsCardSaid: for every input the law function StateGrows returns true (definitions stay, the next number rises by one just with a start, an event changes at most the saga that it names), and the arguments read afterwards as before.
  Conditions: none beyond the statement's own (the listed tables of the library hold what its text lays).
-/
import Derived.Test.YteejocnogpaifaaGreatDoorStaOwn
import Derived.Shelf.Spec.SlicesInsertGrow
import Derived.Test.YteejocnogpaifaaGreatDoorStaGood3
import Derived.Deep.RegionHeld3
import Derived.Deep.DeepCutAuto
import Derived.BigQuiet
import Derived.Laws.Cover1
import Derived.Test.YteejocnogpaifaaGreatDoorSagMay
import Derived.Deep.CutBlock
import Derived.Deep.RegionLaw
import Derived.Test.YteejocnogpaifaaGreatDoorStaAct
import Derived.Test.YteejocnogpaifaaGreatDoorStaDel
import Derived.Test.YteejocnogpaifaaGreatDoorCodGood
import Derived.Test.YteejocnogpaifaaGreatDoorDefEnd
import Derived.Test.YteejocnogpaifaaGreatDoorStaMath
import Derived.Handed
import Derived.SizedLaws
import Derived.Test.YteejocnogpaifaaGreatDoorDefSame
import Derived.Test.YteejocnogpaifaaGreatDoorCards
import Derived.Test.YteejocnogpaifaaGreatDoorTie
import Derived.Lib.LaidTab
import Derived.Stop.LaidErr
import Derived.ProofKit
import Derived.OpenShut
import Derived.ShutString
import Derived.LaidMore
import Derived.Lay
import Derived.Shelf.Vars
import Derived.Stop.Joined
import Derived.LoopTactic
import Derived.WalkMore
namespace Go.Proofs.YteejocnogpaifaaGreatDoor.Tt
open Go.RowKit Go.Lib
open Go.Proofs.YteejocnogpaifaaGreatDoor.El
open Go.Proofs.YteejocnogpaifaaGreatDoor.Df
open Go.Proofs.YteejocnogpaifaaGreatDoor.Bo (P Made ret_int ret_bool)
open Go.Proofs.YteejocnogpaifaaGreatDoor.Sa (Sg Cm)
open Go.Proofs.YteejocnogpaifaaGreatDoor.Co (Ev Mod)

/-- a copy into the midst of a block, of structs of k cells -/
theorem run_copy_mid {Q : Program} (w : World) (dT sT ty elem t : TypeId) (k b o dLen dCap : Nat) (a : Addr) (sLen sCap : Nat) (cs : List Value) (cur : Array Value)
    (hu : Q.underlying dT = some (.slice elem)) (hs : (Q.info? elem).map (·.size) = some k) (hn : cs.length = Nat.min sLen dLen * k)
    (hsrc : ∀ j v, cs[j]? = some v → w.cell? (a.add j) = some v) (hb : w.heap[b]? = some (.cells cur t (0, 0))) (hf : o + cs.length ≤ cur.size) (h1 : ∀ v ∈ cs, v.oneCell' = true) :
    (Builtin.copy_ #[dT, sT] ty #[.slice (some ⟨b, o, none⟩) dLen dCap, .slice (some a) sLen sCap]).run Q w = .ok (goInt (Nat.min sLen dLen)) (w.setRow b (spl cur o cs)) := by
  have hl := run_loadCells_list (P := Q) w a cs hsrc
  have hst := run_storeCells_at Q b o t cs 0 cur w hb (by simpa using hf) h1
  cases hq : Q.info? elem with
  | none => simp [hq] at hs
  | some i =>
    have hi : i.size = k := by simpa [hq] using hs
    simp only [Nat.add_zero] at hst
    simp [Builtin.copy_, run_underlying hu, Builtin.lenOf, Builtin.firstCells, sizeOf, typeInfo, hq, hi, ← hn, hl, hst, spl]
theorem ins_shift {L X Y : List Value} {a N : Nat} (hX : L.take N = X) (hY : Y.length = 3) (ha : a ≤ N) (hN : N + 3 ≤ L.length) :
    (((L.take (a + 3) ++ X.drop a ++ L.drop (a + 3 + (X.drop a).length)).take a ++ Y ++ (L.take (a + 3) ++ X.drop a ++ L.drop (a + 3 + (X.drop a).length)).drop (a + Y.length)).take (N + 3)) = X.take a ++ Y ++ X.drop a := by
  have hXl : X.length = N := by rw [← hX, List.length_take]; omega
  have hd : (X.drop a).length = N - a := by rw [List.length_drop, hXl]
  have h3 : (L.take (a + 3)).length = a + 3 := by rw [List.length_take]; omega
  have e1 : (L.take (a + 3) ++ X.drop a ++ L.drop (a + 3 + (X.drop a).length)).take a = X.take a := by
    rw [List.append_assoc, List.take_append_of_le_length (by omega), List.take_take, ← hX, List.take_take]
    congr 1
    omega
  have e2 : (L.take (a + 3) ++ X.drop a ++ L.drop (a + 3 + (X.drop a).length)).drop (a + Y.length) = X.drop a ++ L.drop (a + 3 + (X.drop a).length) := by
    rw [hY, List.append_assoc, List.drop_append, List.drop_eq_nil_of_le (by omega), List.nil_append, h3, Nat.sub_self, List.drop_zero]
  rw [e1, e2, ← List.append_assoc]
  have hl : (X.take a ++ Y ++ X.drop a).length = N + 3 := by
    simp only [List.length_append, List.length_take, hY, hd]
    omega
  rw [← hl, List.take_left]
theorem ins_grow {L X Y : List Value} {a N : Nat} (hX : L.take a = X.take a) (hXl : X.length = N) (hY : Y.length = 3) (ha : a ≤ N) (hN : N + 3 ≤ L.length) :
    (((L.take a ++ Y ++ L.drop (a + Y.length)).take (a + 3) ++ X.drop a ++ (L.take a ++ Y ++ L.drop (a + Y.length)).drop (a + 3 + (X.drop a).length)).take (N + 3)) = X.take a ++ Y ++ X.drop a := by
  have hd : (X.drop a).length = N - a := by rw [List.length_drop, hXl]
  have h3 : (L.take a ++ Y).length = a + 3 := by rw [List.length_append, List.length_take, hY]; omega
  have e1 : (L.take a ++ Y ++ L.drop (a + Y.length)).take (a + 3) = X.take a ++ Y := by
    rw [← h3, List.take_left, hX]
  rw [e1]
  have hl : (X.take a ++ Y ++ X.drop a).length = N + 3 := by
    simp only [List.length_append, List.length_take, hY, hd]
    omega
  rw [← hl, List.take_left]
theorem ins_flat (dx : List DX) (y : DX) (i : Nat) : (dx.flatMap DX.cells).take (i * 3) ++ y.cells ++ (dx.flatMap DX.cells).drop (i * 3) = (dx.take i ++ y :: dx.drop i).flatMap DX.cells := by
  rw [flat_take dx_len, flat_drop dx_len, List.flatMap_append, List.flatMap_cons, List.append_assoc]
theorem zero_size (n : Nat) : (Builtin.zeroCells zeroD.cells n).size = n * 3 := by simp [Builtin.zeroCells, zeroD, Value.cells]
/-- a row of one's own that has one more -/
def InsIs (w : World) (R n : Nat) (row : Option Nat) (xs : List Value) (e : Ending) (w' : World) : Prop :=
  ∃ A' c', e = .returned (.slice A' (n + 1) c') ∧ w'.ownsRow R 33 3 (.slice A' (n + 1) c') (n + 1) xs ∧ w.grownBy w' row
section
variable (R : Nat) (A : Option Addr) (n c : Nat) (dx : List DX) (i vb : Nat) (y : DX) (w : World) (hn : n = dx.length) (hb : n ≤ 1000000) (hR : R ≤ w.heap.size)
  (ho : w.ownsRow R 33 3 (.slice A n c) n (dx.flatMap DX.cells)) (hv : Box w vb 33 #[.string y.nm, .int .i64 y.dl, .slice y.A y.n y.c]) (hne : (Value.slice A n c).ownBlock ≠ some vb)
include hn hb hR ho hv hne
set_option maxHeartbeats 4000000 in
set_option maxRecDepth 100000 in
theorem insert_end : Calls Tryz.prog 42 #[.slice A n c, .int .i64 (n : Int), .slice (some ⟨vb, 0, none⟩) 1 1] w (InsIs w R n (Value.slice A n c).ownBlock ((dx.take n ++ y :: dx.drop n).flatMap DX.cells)) := by
  obtain ⟨i0, hi0, hz0, hz1, hz2⟩ := info_of infoD
  have hcap := own_cap ho
  unfold maxLen at hcap
  have HO := Lib.hid ho
  have HF : Hid ((dx.take n ++ y :: dx.drop n).flatMap DX.cells = dx.flatMap DX.cells ++ y.cells) := Lib.hid (by rw [hn, List.take_length, List.drop_length, List.flatMap_append, List.flatMap_cons]; simp)
  generalize (dx.take n ++ y :: dx.drop n).flatMap DX.cells = XS at *
  have HV : Hid (∀ j u, y.cells[j]? = some u → w.cell? ((⟨vb, 0, none⟩ : Addr).add j) = some u) := Lib.hid fun j u hj => by
    rw [Addr.add_lit, Nat.zero_add, hv.cell j]
    simpa [DX.cells] using hj
  have hc63 : c ≤ 9223372036854775807 := by omega
  have hz : ∀ w, (Go.sizeOf 33).run Tryz.prog w = .ok 3 w := fun w => by kernel_rfl
  clear hn ho hv
  cases A with
  | none =>
    obtain ⟨rfl, rfl⟩ := own_none HO.out
    go_enter Tryz.func42, Tryz.ntmps42
    go_wp2_with (at_builtin; refine wpList_append_own _ rfl (.tmp 23) (.tmp 24) 24 rfl R 33 i0 zeroD 3 48 Tryz.underlying24 hi0 hz0 hz1 hz2 rfl (by decide) _ 0 _ rfl HO.out ⟨vb, 0, none⟩ 1 1 y.cells rfl rfl HV.out (dx_one y) (by unfold maxLen; omega) (by omega) hR ?_; intro v1 w1 hown1 hgrow1 _; obtain ⟨A1, c1, rfl⟩ := own_form hown1; have HO1 := Lib.hid hown1; have HG1 := Lib.hid hgrow1; clear hown1 hgrow1)
    go_ret
    exact ⟨A1, c1, rfl, by rw [HF.out]; exact HO1.out, HG1.out⟩
  | some a =>
    obtain ⟨g, o, sp⟩ := a
    go_enter Tryz.func42, Tryz.ntmps42
    go_wp2_with (at_builtin; refine wpList_append_own _ rfl (.tmp 23) (.tmp 24) 24 rfl R 33 i0 zeroD 3 48 Tryz.underlying24 hi0 hz0 hz1 hz2 rfl (by decide) _ n _ rfl HO.out ⟨vb, 0, none⟩ 1 1 y.cells rfl rfl HV.out (dx_one y) (by unfold maxLen; omega) (by omega) hR ?_; intro v1 w1 hown1 hgrow1 _; obtain ⟨A1, c1, rfl⟩ := own_form hown1; have HO1 := Lib.hid hown1; have HG1 := Lib.hid hgrow1; clear hown1 hgrow1)
    all_goals
      go_ret
      exact ⟨A1, c1, rfl, by rw [HF.out]; exact HO1.out, HG1.out⟩
variable (hi : i < n)
include hi
set_option maxHeartbeats 4000000 in
set_option maxRecDepth 100000 in
theorem insert_room (hroom : n + 1 ≤ c) : Calls Tryz.prog 42 #[.slice A n c, .int .i64 (i : Int), .slice (some ⟨vb, 0, none⟩) 1 1] w (InsIs w R n (Value.slice A n c).ownBlock ((dx.take i ++ y :: dx.drop i).flatMap DX.cells)) := by
  have _hR := hR
  have hcap := own_cap ho
  unfold maxLen at hcap
  have hc63 : c ≤ 9223372036854775807 := by omega
  obtain ⟨q, cur, rfl, hq, hbx, hsz, htk⟩ := own_at ho (by omega)
  have hvq : vb ≠ q := fun e => hne (by rw [e]; rfl)
  have hz : ∀ w, (Go.sizeOf 33).run Tryz.prog w = .ok 3 w := fun w => by kernel_rfl
  have hsh : (Tryz.prog.info? 33).map (·.size) = some 3 := by kernel_rfl
  have hsa : w.shape? vb = some (33, 3) := by unfold World.shape?; rw [show w.heap[vb]? = _ from hv]; rfl
  have hsb : w.shape? q = some (33, cur.size) := by unfold World.shape?; rw [show w.heap[q]? = _ from hbx]
  have hov : ∀ lb cb, (callFunc 75 #[.slice (some ⟨vb, 0, none⟩) 1 1, .slice (some ⟨q, (i + 1) * 3, none⟩) lb cb]).run Tryz.prog w = .ok (.value (.bool false)) w := fun lb cb => by
    rw [run_callFunc_extern Tryz.func75 (by kernel_rfl) (by kernel_rfl) (by kernel_rfl) (e := Extern.SlicesOverlaps.overlaps #[24, 24] #[4]) (by kernel_rfl),
      Lib.run_overlaps_apart w 24 4 33 Tryz.underlying24 3 hz ⟨vb, 0, none⟩ ⟨q, (i + 1) * 3, none⟩ 1 1 lb cb hvq 33 33 3 cur.size hsa hsb (by omega) (hv.frozen 0) (hv.frozen 3)]
    rfl
  have hX : (dx.flatMap DX.cells).length = n * 3 := by rw [flat_len dx_len, hn]
  have hdl : ((dx.flatMap DX.cells).drop (i * 3)).length = (n - i) * 3 := by rw [List.length_drop, hX]; omega
  have hcells := ho.cells (g := q) rfl
  have hone := flat_one dx_one dx
  have hcp1 : ∀ ty dc sc, (Builtin.copy_ #[24, 24] ty #[.slice (some ⟨q, (i + 1) * 3, none⟩) (n - i) dc, .slice (some ⟨q, i * 3, none⟩) (n + 1 - i) sc]).run Tryz.prog w.drew = .ok (goInt ((n - i : Nat) : Int)) (w.drew.setRow q (spl cur ((i + 1) * 3) ((dx.flatMap DX.cells).drop (i * 3)))) := fun ty dc sc => by
    have hmin : Nat.min (n + 1 - i) (n - i) = n - i := by simp only [Nat.min_def]; split <;> omega
    have := run_copy_mid (Q := Tryz.prog) w.drew 24 24 ty 33 33 3 q ((i + 1) * 3) (n - i) dc ⟨q, i * 3, none⟩ (n + 1 - i) sc ((dx.flatMap DX.cells).drop (i * 3)) cur Tryz.underlying24 hsh (by rw [hmin, hdl])
      (fun j v hj => by
        rw [Addr.add_lit]
        rw [List.getElem?_drop] at hj
        have := hcells (i * 3 + j) v hj
        rw [Addr.add_lit, Nat.zero_add] at this
        exact this) hbx (by rw [hdl, hsz]; omega) (fun v hv => hone v (List.mem_of_mem_drop hv))
    rw [hmin] at this
    exact this
  obtain ⟨cur1, hcur1⟩ : ∃ cur1, cur1 = spl cur ((i + 1) * 3) ((dx.flatMap DX.cells).drop (i * 3)) := ⟨_, rfl⟩
  have hs1 : cur1.size = c * 3 := by rw [hcur1, spl_size (by rw [hdl, hsz]; omega), hsz]
  rw [← hcur1] at hcp1
  have hbx1 : Box (w.drew.setRow q cur1) q 33 cur1 := Sa.box_row (show Box w.drew q 33 cur from hbx) cur1
  have hcp2 : ∀ (W : World), W.heap = (w.drew.setRow q cur1).heap → ∀ ty dc, (Builtin.copy_ #[24, 24] ty #[.slice (some ⟨q, i * 3, none⟩) (n + 1 - i) dc, .slice (some ⟨vb, 0, none⟩) 1 1]).run Tryz.prog W = .ok (goInt 1) (W.setRow q (spl cur1 (i * 3) y.cells)) := fun W hW ty dc => by
    have hmin : Nat.min 1 (n + 1 - i) = 1 := by simp only [Nat.min_def]; split <;> omega
    have := run_copy_mid (Q := Tryz.prog) W 24 24 ty 33 33 3 q (i * 3) (n + 1 - i) dc ⟨vb, 0, none⟩ 1 1 y.cells cur1 Tryz.underlying24 hsh (by rw [hmin]; rfl)
      (fun j v hj => by
        have hb2 : Box W vb 33 #[.string y.nm, .int .i64 y.dl, .slice y.A y.n y.c] := by
          unfold Box
          rw [hW]
          exact (setRow_other w.drew q vb cur1 hvq).trans hv
        rw [Addr.add_lit, Nat.zero_add, hb2.cell j]
        simpa [DX.cells] using hj) (by rw [hW]; exact hbx1) (by rw [hs1]; show i * 3 + 3 ≤ _; omega) (dx_one y)
    rw [hmin] at this
    exact this
  have HEND : Hid (((w.drew.setRow q cur1).setRow q (spl cur1 (i * 3) y.cells)).ownsRow R 33 3 (.slice (some ⟨q, 0, none⟩) (n + 1) c) (n + 1) ((dx.take i ++ y :: dx.drop i).flatMap DX.cells)) := Lib.hid (by
    have hb2 := Sa.box_row hbx1 (spl cur1 (i * 3) y.cells)
    refine ⟨by rw [flat_len dx_len]; simp; omega, .inr ⟨q, c, _, rfl, hq, hb2, by omega, by unfold maxLen; exact hcap.2, by rw [spl_size (by rw [hs1]; show i * 3 + 3 ≤ _; omega), hs1], ?_⟩⟩
    rw [← ins_flat]
    have := ins_shift (L := cur.toList) (X := dx.flatMap DX.cells) (Y := y.cells) (a := i * 3) (N := n * 3) htk rfl (by omega) (by rw [Array.length_toList, hsz]; omega)
    rw [show (n + 1) * 3 = n * 3 + 3 by omega, hcur1]
    rw [show i * 3 + 3 = (i + 1) * 3 by omega] at this
    exact this)
  have HGR : Hid (w.grownBy ((w.drew.setRow q cur1).setRow q (spl cur1 (i * 3) y.cells)) (some q)) := Lib.hid
    ⟨rfl, rfl, rfl, by rw [setRow_size, setRow_size]; exact Nat.le_refl _, fun k _ hk => (setRow_other _ q k _ (fun e => hk (by rw [e]))).trans (setRow_other w.drew q k _ (fun e => hk (by rw [e])))⟩
  generalize (dx.take i ++ y :: dx.drop i).flatMap DX.cells = XS at *
  generalize hW1 : w.drew.setRow q cur1 = W1 at *
  have hcp2' := hcp2 W1 rfl
  have hw1 : IntKind.i64.wrap ((i : Int) + 1) = (i : Int) + 1 := by rw [IntKind.wrap_i64]; omega
  have hb1 : (0 : Int) ≤ (i : Int) + 1 := by omega
  have htn : ((i : Int) + 1).toNat = i + 1 := by omega
  have hb2 : ¬ (c = i + 1) := by omega
  have hb3 : (i : Int) ≤ (n : Int) + 1 := by omega
  have hb4 : ¬ (c = i) := by omega
  have hin : i ≤ n := by omega
  have hz2 : ¬ ((i : Int) = (n : Int)) := by omega
  have hz3 : ¬ ((c : Int) < (n : Int) + 1) := by omega
  have mixed : Tryz.prog.follows .mixedOrders = true := by kernel_rfl
  clear hX hdl hcells hone hs1 hbx1 hsz htk hsa hsb hcp2 hn ho hv hne hcur1 hW1 hbx
  go_enter Tryz.func42, Tryz.ntmps42
  go_wp2_with (simp only [hov])
  go_region_law_o (refine step_copy_runI rfl _ _ 24 24 rfl _ _ (by simp [Act.eval, Act.put]) (by simp [Act.eval, Act.put]) (hcp1 _ _ _) ?_)
  go_wp2_with (at_builtin; refine wpList_copy_runI _ rfl _ _ 24 24 rfl _ _ rfl rfl (hcp2' _ _) ?_)
  go_ret
  exact ⟨_, _, rfl, HEND.out, HGR.out⟩
end
end Go.Proofs.YteejocnogpaifaaGreatDoor.Tt

namespace Go.Proofs.YteejocnogpaifaaGreatDoor.Tt
open Go.RowKit Go.Lib
open Go.Proofs.YteejocnogpaifaaGreatDoor.El
open Go.Proofs.YteejocnogpaifaaGreatDoor.Df
open Go.Proofs.YteejocnogpaifaaGreatDoor.Bo (P Made ret_int ret_bool)
open Go.Proofs.YteejocnogpaifaaGreatDoor.Sa (Sg Cm)
open Go.Proofs.YteejocnogpaifaaGreatDoor.Co (Ev Mod)
section
variable (R : Nat) (A : Option Addr) (n c : Nat) (dx : List DX) (i vb : Nat) (y : DX) (w : World) (hn : n = dx.length) (hb : n ≤ 1000000) (hR : R ≤ w.heap.size)
  (ho : w.ownsRow R 33 3 (.slice A n c) n (dx.flatMap DX.cells)) (hv : Box w vb 33 #[.string y.nm, .int .i64 y.dl, .slice y.A y.n y.c]) (hne : (Value.slice A n c).ownBlock ≠ some vb)
include hn hb hR ho hv hne
set_option maxHeartbeats 4000000 in
set_option maxRecDepth 100000 in
theorem insert_grow (hi : i < n) (hroom : c < n + 1) : Calls Tryz.prog 42 #[.slice A n c, .int .i64 (i : Int), .slice (some ⟨vb, 0, none⟩) 1 1] w (InsIs w R n (Value.slice A n c).ownBlock ((dx.take i ++ y :: dx.drop i).flatMap DX.cells)) := by
  have hcap := own_cap ho
  have hnc : n ≤ c := hcap.1
  obtain ⟨q, cur, rfl, hq, hbx, hsz, htk⟩ := own_at ho (by omega)
  have hvq : vb ≠ q := fun e => hne (by rw [e]; rfl)
  have hz : ∀ w, (Go.sizeOf 33).run Tryz.prog w = .ok 3 w := fun w => by kernel_rfl
  have hsh : (Tryz.prog.info? 33).map (·.size) = some 3 := by kernel_rfl
  obtain ⟨i0, hi0, hz0, hzs, hzb⟩ := info_of infoD
  have hX : (dx.flatMap DX.cells).length = n * 3 := by rw [flat_len dx_len, hn]
  have hdl : ((dx.flatMap DX.cells).drop (i * 3)).length = (n - i) * 3 := by rw [List.length_drop, hX]; omega
  have htl : ((dx.flatMap DX.cells).take (i * 3)).length = i * 3 := by rw [List.length_take, hX]; omega
  have hcells := ho.cells (g := q) rfl
  have hone := flat_one dx_one dx
  have hkk : (n : Int) + 1 - (i : Int) = ((n + 1 - i : Nat) : Int) := by omega
  have hik : i + (n + 1 - i) = n + 1 := by omega
  have hold : (Builtin.firstCells i0.size i (.slice (some ⟨q, 0, none⟩) i c)).run Tryz.prog w.drew = .ok ((dx.flatMap DX.cells).take (i * 3)).toArray w.drew := by
    rw [hzs]
    exact run_firstCells_some w.drew 3 i ⟨q, 0, none⟩ i c ((dx.flatMap DX.cells).take (i * 3)) htl (fun j v hj => by
      rw [List.getElem?_take] at hj
      split at hj
      · exact hcells j v hj
      · cases hj)
  have hrz : ∀ ty, (Builtin.append_ #[24, 3] ty #[.slice (some ⟨q, 0, none⟩) i c, .int .i64 ((n : Int) + 1 - (i : Int))]).run Tryz.prog w =
      .ok (.slice (some ⟨w.heap.size, 0, none⟩) (n + 1) (grownCap w (n + 1) c 33)) (w.drew.alloc (.cells (((dx.flatMap DX.cells).take (i * 3)).toArray ++ Builtin.zeroCells zeroD.cells (n + 1 - i) ++ Builtin.zeroCells zeroD.cells (grownCap w (n + 1) c 33 - (n + 1))) 33)) := fun ty => by
    have h := Lib.run_append_grow_zeros w 24 3 ty 33 i0 _ .i64 .i64 Tryz.underlying24 Tryz.underlying3 hi0 hz0 (some ⟨q, 0, none⟩) i c ((dx.flatMap DX.cells).take (i * 3)) hold (n + 1 - i) (by omega) (by omega) (by omega) (by omega) (by rw [hzb]; omega) (by rw [hzb, hik]; exact growslice_fits hroom (by omega))
    rw [hik] at h
    rw [hkk]
    exact h
  have hGn : n + 1 ≤ grownCap w (n + 1) c 33 := grownCap_ge w _ _ _
  have hG63 : grownCap w (n + 1) c 33 ≤ maxLen := grownCap_le_maxLen w (n + 1) c 33 (by unfold maxLen; omega)
  generalize grownCap w (n + 1) c 33 = G at hrz hGn hG63
  obtain ⟨ROW, hROW⟩ : ∃ ROW : Array Value, ROW = ((dx.flatMap DX.cells).take (i * 3)).toArray ++ Builtin.zeroCells zeroD.cells (n + 1 - i) ++ Builtin.zeroCells zeroD.cells (G - (n + 1)) := ⟨_, rfl⟩
  rw [← hROW] at hrz
  have hRs : ROW.size = G * 3 := by
    rw [hROW, Array.size_append, Array.size_append, zero_size, zero_size, List.size_toArray, htl]
    omega
  have hRt : ROW.toList.take (i * 3) = (dx.flatMap DX.cells).take (i * 3) := by
    rw [hROW, Array.toList_append, Array.toList_append, List.append_assoc, List.take_append_of_le_length (by simp [htl]), List.take_of_length_le (by simp [htl])]
  have hbN : q ≠ w.heap.size := by have := hbx.lt; omega
  have hvN : vb ≠ w.heap.size := by have := hv.lt; omega
  have hbx1 : ∀ W : World, W.heap = (w.drew.alloc (.cells ROW 33)).heap → Box W w.heap.size 33 ROW := fun W hW => by
    unfold Box
    rw [hW]
    exact Box.new w.drew 33 ROW
  have hold1 : ∀ W : World, W.heap = (w.drew.alloc (.cells ROW 33)).heap → ∀ k, k < w.heap.size → W.heap[k]? = w.heap[k]? := fun W hW k hk => by
    rw [hW]
    exact Below.heap_alloc w.drew _ k hk
  obtain ⟨cur1, hcur1⟩ : ∃ cur1, cur1 = spl ROW (i * 3) y.cells := ⟨_, rfl⟩
  have hs1 : cur1.size = G * 3 := by rw [hcur1, spl_size (by rw [hRs]; show i * 3 + 3 ≤ _; omega), hRs]
  have hcpA : ∀ (W : World), W.heap = (w.drew.alloc (.cells ROW 33)).heap → ∀ ty dc, (Builtin.copy_ #[24, 24] ty #[.slice (some ⟨w.heap.size, i * 3, none⟩) (n + 1 - i) dc, .slice (some ⟨vb, 0, none⟩) 1 1]).run Tryz.prog W = .ok (goInt 1) (W.setRow w.heap.size cur1) := fun W hW ty dc => by
    have hmin : Nat.min 1 (n + 1 - i) = 1 := by simp only [Nat.min_def]; split <;> omega
    have := run_copy_mid (Q := Tryz.prog) W 24 24 ty 33 33 3 w.heap.size (i * 3) (n + 1 - i) dc ⟨vb, 0, none⟩ 1 1 y.cells ROW Tryz.underlying24 hsh (by rw [hmin]; rfl)
      (fun j v hj => by
        have hb2 : Box W vb 33 #[.string y.nm, .int .i64 y.dl, .slice y.A y.n y.c] := (hold1 W hW vb hv.lt).trans hv
        rw [Addr.add_lit, Nat.zero_add, hb2.cell j]
        simpa [DX.cells] using hj) (hbx1 W hW) (by rw [hRs]; show i * 3 + 3 ≤ _; omega) (dx_one y)
    rw [hmin, ← hcur1] at this
    exact this
  have hcpB : ∀ (W V : World), V.heap = (w.drew.alloc (.cells ROW 33)).heap → W.heap = (V.setRow w.heap.size cur1).heap → ∀ ty dc sc, (Builtin.copy_ #[24, 24] ty #[.slice (some ⟨w.heap.size, (i + 1) * 3, none⟩) (n - i) dc, .slice (some ⟨q, i * 3, none⟩) (n - i) sc]).run Tryz.prog W = .ok (goInt ((n - i : Nat) : Int)) (W.setRow w.heap.size (spl cur1 ((i + 1) * 3) ((dx.flatMap DX.cells).drop (i * 3)))) := fun W V hV hW ty dc sc => by
    have hmin : Nat.min (n - i) (n - i) = n - i := by simp
    have hbV : Box (V.setRow w.heap.size cur1) w.heap.size 33 cur1 := Sa.box_row (hbx1 V hV) cur1
    have := run_copy_mid (Q := Tryz.prog) W 24 24 ty 33 33 3 w.heap.size ((i + 1) * 3) (n - i) dc ⟨q, i * 3, none⟩ (n - i) sc ((dx.flatMap DX.cells).drop (i * 3)) cur1 Tryz.underlying24 hsh (by rw [hmin, hdl])
      (fun j v hj => by
        rw [List.getElem?_drop] at hj
        have h1 := hcells (i * 3 + j) v hj
        rw [Addr.add_lit, Nat.zero_add] at h1
        rw [Addr.add_lit]
        have hbl := hbx.lt
        refine (World.cell?_of_block (w := w) (w' := W) (a := ⟨q, i * 3 + j, none⟩) ?_).trans h1
        show W.heap[q]? = w.heap[q]?
        rw [hW, setRow_other V w.heap.size q cur1 hbN]
        exact hold1 V hV q hbl) (by rw [hW]; exact hbV) (by rw [hdl, hs1]; omega) (fun v hv => hone v (List.mem_of_mem_drop hv))
    rw [hmin] at this
    exact this
  have HEND : Hid (∀ (W V : World), V.heap = (w.drew.alloc (.cells ROW 33)).heap → W.heap = (V.setRow w.heap.size cur1).heap → (W.setRow w.heap.size (spl cur1 ((i + 1) * 3) ((dx.flatMap DX.cells).drop (i * 3)))).ownsRow R 33 3 (.slice (some ⟨w.heap.size, 0, none⟩) (n + 1) G) (n + 1) ((dx.take i ++ y :: dx.drop i).flatMap DX.cells)) := Lib.hid fun W V hV hW => by
    have hbV : Box W w.heap.size 33 cur1 := by
      unfold Box
      rw [hW]
      exact Sa.box_row (hbx1 V hV) cur1
    have hb2 := Sa.box_row hbV (spl cur1 ((i + 1) * 3) ((dx.flatMap DX.cells).drop (i * 3)))
    refine ⟨by rw [flat_len dx_len]; simp; omega, .inr ⟨w.heap.size, G, _, rfl, hR, hb2, hGn, hG63, by rw [spl_size (by rw [hdl, hs1]; omega), hs1], ?_⟩⟩
    rw [← ins_flat]
    have := ins_grow (L := ROW.toList) (X := dx.flatMap DX.cells) (Y := y.cells) (a := i * 3) (N := n * 3) hRt hX rfl (by omega) (by rw [Array.length_toList, hRs]; omega)
    rw [show (n + 1) * 3 = n * 3 + 3 by omega, hcur1]
    rw [show i * 3 + 3 = (i + 1) * 3 by omega] at this
    exact this
  have HGR : Hid (∀ (W V : World) (cs : Array Value), V.heap = (w.drew.alloc (.cells ROW 33)).heap → W.heap = (V.setRow w.heap.size cur1).heap → W.os = w.os → W.tape = w.tape → W.output = w.output → w.grownBy (W.setRow w.heap.size cs) (some q)) := Lib.hid fun W V cs hV hW h1 h2 h3 =>
    ⟨h1, h2, h3, by rw [setRow_size, hW, setRow_size, hV]; simp, fun k hk _ => by
      rw [setRow_other W w.heap.size k cs (by omega), hW, setRow_other V w.heap.size k cur1 (by omega)]
      exact hold1 V hV k hk⟩
  have hG9 : G ≤ 9223372036854775807 := by unfold maxLen at hG63; omega
  have hcN : c ≤ 9223372036854775807 := by have := hcap.2; unfold maxLen at this; omega
  generalize (dx.take i ++ y :: dx.drop i).flatMap DX.cells = XS at *
  generalize (dx.flatMap DX.cells).drop (i * 3) = DS at *
  have hw1 : IntKind.i64.wrap ((i : Int) + 1) = (i : Int) + 1 := by rw [IntKind.wrap_i64]; omega
  have hb1 : (0 : Int) ≤ (i : Int) + 1 := by omega
  have htn : ((i : Int) + 1).toNat = i + 1 := by omega
  have hb2 : ¬ (G = i + 1) := by omega
  have hb3 : (i : Int) ≤ (n : Int) := by omega
  have hb4 : ¬ (c = i) := by omega
  have hb5 : ¬ (G = i) := by omega
  have hin : i ≤ n := by omega
  have hz2 : ¬ ((i : Int) = (n : Int)) := by omega
  have hz3 : (c : Int) < (n : Int) + 1 := by omega
  have mixed : Tryz.prog.follows .mixedOrders = true := by kernel_rfl
  have hE : ((w.alloc (.cells ROW 33)).drew).heap = (w.drew.alloc (.cells ROW 33)).heap := rfl
  have hF : ((((w.alloc (.cells ROW 33)).drew).setRow w.heap.size cur1).drew).heap = (((w.alloc (.cells ROW 33)).drew).setRow w.heap.size cur1).heap := rfl
  clear hX hdl htl hcells hone hs1 hbx1 hsz htk hn ho hv hne hcur1 hbx hkk hik hold hROW hRs hRt hold1 hcap
  go_enter Tryz.func42, Tryz.ntmps42
  go_wp2_with (first
    | (at_builtin; refine Lib.wpList_append_run _ rfl _ _ _ _ rfl _ _ rfl rfl _ _ (hrz _) ?_)
    | (at_builtin; refine wpList_copy_runI _ rfl _ _ 24 24 rfl _ _ rfl rfl (hcpA _ hE _ _) ?_))
  go_region_law_o (refine step_copy_runI rfl _ _ 24 24 rfl (.slice (some ⟨w.heap.size, (i + 1) * 3, none⟩) (n - i) (G - (i + 1))) (.slice (some ⟨q, i * 3, none⟩) (n - i) (c - i)) (by simp [Act.eval, Act.put]) (by simp [Act.eval, Act.put]) (hcpB _ _ hE hF _ _ _) ?_)
  go_wp2
  go_ret
  exact ⟨_, _, rfl, HEND.out _ _ hE hF, HGR.out _ _ _ hE hF rfl rfl rfl⟩
theorem insert_any (hi : i ≤ n) : Calls Tryz.prog 42 #[.slice A n c, .int .i64 (i : Int), .slice (some ⟨vb, 0, none⟩) 1 1] w (InsIs w R n (Value.slice A n c).ownBlock ((dx.take i ++ y :: dx.drop i).flatMap DX.cells)) := by
  rcases Nat.lt_or_ge i n with h | h
  · rcases Nat.lt_or_ge c (n + 1) with h2 | h2
    · exact insert_grow R A n c dx i vb y w hn hb hR ho hv hne h h2
    · exact insert_room R A n c dx i vb y w hn hb hR ho hv hne h h2
  · have : i = n := by omega
    subst this
    exact insert_end R A i c dx vb y w hn hb hR ho hv hne
end
end Go.Proofs.YteejocnogpaifaaGreatDoor.Tt

namespace Go.Proofs.YteejocnogpaifaaGreatDoor.Tt
open Go.RowKit
open Go.Proofs.YteejocnogpaifaaGreatDoor.El
open Go.Proofs.YteejocnogpaifaaGreatDoor.Df
open Go.Proofs.YteejocnogpaifaaGreatDoor.Bo (P Made ret_int ret_bool)
open Go.Proofs.YteejocnogpaifaaGreatDoor.Sa (Sg Cm)
open Go.Proofs.YteejocnogpaifaaGreatDoor.Co (Ev Mod)

section
variable {w w2 w3 : World} {g R : Nat} {x : SV}
/-- an own row of another type stays where one row turns, and the state's block -/
theorem row_keeps {e : TypeId} {k n : Nat} {v : Value} {xs : List Value} {o : Obj} {q : Option Nat} {u : Value} {i : Nat} (h2 : w2.ownsRow R e k v n xs) (hgR : g < R) (hg : (w2.alloc o).grownBy w3 q) (hq : ∀ b, q = some b → ∃ cur, Box w2 b 33 cur) (he : e ≠ 33) :
    (w3.setCell ⟨g, i, none⟩ u).ownsRow R e k v n xs := own_stay h2 fun j hj => by
  obtain ⟨h1, cur, hc⟩ := own_blk h2 hj
  have hl := hc.lt
  refine (Below.heap_setCell w3 ⟨g, i, none⟩ u j (by show j ≠ g; omega)).trans ((hg.block j (by simp; omega) (fun e => ?_)).trans (Below.heap_alloc w2 o j hl))
  obtain ⟨cur', hc'⟩ := hq j e.symm
  exact (Box.apart hc hc' he) rfl
theorem here_ins {o : Obj} {A' : Option Addr} {c' k : Nat} {y : DX} (h : Here w g R x) (hb2 : Below w.heap.size w w2) (h1 : y.n = y.ss.length) (hm : Mod y.nm y.ss) (ho2 : w2.ownsRow R 54 12 (.slice y.A y.n y.c) y.n (cellsS y.ss))
    (hg3 : (w2.alloc o).grownBy w3 (Value.slice x.AD x.nD x.cD).ownBlock) (hown3 : w3.ownsRow R 33 3 (.slice A' (x.nD + 1) c') (x.nD + 1) ((x.dx.take k ++ y :: x.dx.drop k).flatMap DX.cells)) :
    Here (w3.setCell ⟨g, 0, none⟩ (.slice A' (x.nD + 1) c')) g R ⟨A', x.nD + 1, c', x.AS, x.nS, x.cS, x.nx, x.dx.take k ++ y :: x.dx.drop k, x.gs⟩ ∧ Foot g R w (w3.setCell ⟨g, 0, none⟩ (.slice A' (x.nD + 1) c')) := by
  have h2 := h.below hb2
  have hs3 := hg3.size
  have hq : ∀ b, (Value.slice x.AD x.nD x.cD).ownBlock = some b → ∃ cur, Box w2 b 33 cur := fun b hb => (own_blk h2.own.oD hb).2
  have hgq : (Value.slice x.AD x.nD x.cD).ownBlock ≠ some g := fun e => by have := (own_blk h2.own.oD e).1; have := h.lt; omega
  have hgl := h2.box.lt
  have hbox : Box w3 g 27 x.arr := (hg3.block g (by simp; omega) (fun e => hgq e.symm)).trans (h2.box.alloc o)
  have hlen : (x.dx.take k ++ y :: x.dx.drop k).length = x.nD + 1 := by
    have := hown3.1
    rw [flat_len dx_len] at this
    omega
  have hsz : (w3.setCell ⟨g, 0, none⟩ (.slice A' (x.nD + 1) c')).heap.size = w3.heap.size := by simp [World.setCell]
  refine ⟨⟨hbox.put 0 _, ⟨hlen.symm, h.own.lS, ?_, row_keeps h2.own.oS h.lt hg3 hq (by decide), fun d hd => ?_⟩, h.lt, by have := h2.le; have := hs3; simp at this; omega⟩, ?_⟩
  · exact own_stay hown3 fun i hi => Below.heap_setCell w3 ⟨g, 0, none⟩ _ i (by have := (own_blk hown3 hi).1; have := h.lt; show i ≠ g; omega)
  · have hd' : d ∈ x.dx ∨ d = y := by
      rcases List.mem_append.1 hd with hd | hd
      · exact .inl (List.mem_of_mem_take hd)
      · rcases List.mem_cons.1 hd with hd | hd
        · exact .inr hd
        · exact .inl (List.mem_of_mem_drop hd)
    rcases hd' with hd | rfl
    · exact ⟨(h2.own.oT d hd).1, (h2.own.oT d hd).2.1, row_keeps (h2.own.oT d hd).2.2 h.lt hg3 hq (by decide)⟩
    · exact ⟨h1, hm, row_keeps ho2 h.lt hg3 hq (by decide)⟩
  · have hR := h.le
    refine ((Foot.of_below hb2 hR).trans ((Foot.of_below ((Below.refl w2.heap.size w2).alloc (Nat.le_refl _) o) h2.le).trans (Foot.of_grown hg3 (by simp; have := h2.le; omega) fun i hi => .inl ?_))).put (.inl rfl) 0 _
    exact (own_blk h2.own.oD hi).1
end
/-- what define answers -/
def DefIs (w : World) (g R : Nat) (x : SV) (v : Ev) (e : Ending) (w' : World) : Prop :=
  ∃ y : SV, e = .returned (.int .i64 (defS x.st v).2) ∧ Here w' g R y ∧ y.st = (defS x.st v).1 ∧ Foot g R w w'
theorem defS_there {x : SV} {v : Ev} {i : Nat} (h : findX x.dx v.dn = (i : Int)) : defS x.st v = (x.st, 6) := by
  have : findD x.st.ds v.dn = (i : Int) := (findX_is x.dx v.dn).trans h
  unfold defS
  rw [this, if_pos (by omega)]
theorem defS_full {x : SV} {v : Ev} (h : findX x.dx v.dn = -1) (hl : 64 ≤ x.dx.length) : defS x.st v = (x.st, 8) := by
  have : findD x.st.ds v.dn = -1 := (findX_is x.dx v.dn).trans h
  unfold defS
  rw [this, if_neg (by omega), if_pos (by show 64 ≤ (x.dx.map DX.m).length; rw [List.length_map]; exact hl)]
theorem defS_put {x : SV} {v : Ev} (h : findX x.dx v.dn = -1) (hl : ¬ 64 ≤ x.dx.length) {k : Nat} (hk : k ≤ x.dx.length) (h1 : ∀ j, j < k → ∀ b, x.dx[j]? = some b → ltB b.nm v.dn = true) (h2 : ∀ b, x.dx[k]? = some b → ltB b.nm v.dn = false) {y : DX} (hy : y.m = ⟨v.dn, v.dl, v.ss⟩) :
    defS x.st v = (⟨(x.dx.take k ++ y :: x.dx.drop k).map DX.m, x.gs, x.nx⟩, 0) := by
  have : findD x.st.ds v.dn = -1 := (findX_is x.dx v.dn).trans h
  have hs : spot (x.dx.map DX.m) v.dn = k := spot_is (by rw [List.length_map]; exact hk)
    (fun j hj b hb => by
      rw [List.getElem?_map] at hb
      cases hx : x.dx[j]? with
      | none => rw [hx] at hb; cases hb
      | some d => rw [hx] at hb; cases hb; exact h1 j hj d hx)
    (fun b hb => by
      rw [List.getElem?_map] at hb
      cases hx : x.dx[k]? with
      | none => rw [hx] at hb; cases hb
      | some d => rw [hx] at hb; cases hb; exact h2 d hx)
  unfold defS
  rw [this, if_neg (by omega), if_neg (by show ¬ 64 ≤ (x.dx.map DX.m).length; rw [List.length_map]; exact hl)]
  unfold insD
  show ((⟨(x.dx.map DX.m).take (spot (x.dx.map DX.m) v.dn) ++ _ :: (x.dx.map DX.m).drop (spot (x.dx.map DX.m) v.dn), x.gs, x.nx⟩ : Ms), (0 : Int)) = _
  rw [hs, List.map_append, List.map_cons, List.map_take, List.map_drop, hy]
set_option maxHeartbeats 4000000 in
set_option maxRecDepth 100000 in
theorem define_any (x : SV) (g R : Nat) (v : Ev) (A : Option Addr) (n c : Nat) (w : World) (h : Here w g R x) (hb : x.nD ≤ 1000000) (hn : n = v.ss.length) (hm : Mod v.dn v.ss) (hS : Df.Steps w w.heap.size A v.ss) (h0 : A = none → n = 0 ∧ c = 0) :
    Calls Tryz.prog 17 #[.pointer (some ⟨g, 0, none⟩), .agg #[.string v.dn, .int .i64 v.dl, .slice A n c]] w (DefIs w g R x v) := by
  have hB0 : Below w.heap.size w (w.alloc (.cells #[.string v.dn, .int .i64 v.dl, .slice A n c] 33)) := (Below.refl _ w).alloc (Nat.le_refl _) _
  have HB := Lib.hid hB0
  have HX := Lib.hid (Box.new w 33 #[.string v.dn, .int .i64 v.dl, .slice A n c])
  have HH := Lib.hid (h.below hB0)
  have HD := Lib.hid (And.intro hn (And.intro hm (And.intro (hS.on hB0) h0)))
  have hs0 : (w.alloc (.cells #[.string v.dn, .int .i64 v.dl, .slice A n c] 33)).heap.size = w.heap.size + 1 := by simp
  have HP := Lib.hid (fun u (hu : Below (w.alloc (.cells #[.string v.dn, .int .i64 v.dl, .slice A n c] 33)).heap.size (w.alloc (.cells #[.string v.dn, .int .i64 v.dl, .slice A n c] 33)) u) => placeD_any x.AD x.nD x.cD x.dx v.dn u h.own.lD (by omega) (((h.below hB0).own.sin.on hu).hD))
  have HHw := Lib.hid h
  have hgw : g < w.heap.size := h.box.lt
  have HS0 := Lib.hid hs0
  clear h hn hm hS h0 hB0 hs0
  rcases findX_cases x.dx v.dn with hf | ⟨i, d, hf, _, _, _⟩
  · rw [hf] at HP
    by_cases hl : 64 ≤ x.nD
    · have HF := Lib.hid (defS_full (x := x) (v := v) hf (by rw [← HHw.out.own.lD]; exact hl))
      have hl2 : (64 : Int) ≤ (x.nD : Int) := by omega
      clear hf
      go_enter Tryz.func17, Tryz.ntmps17
      go_upto_region 1 with fail
      generalize w.alloc (.cells #[.string v.dn, .int .i64 v.dl, .slice A n c] 33) = W0 at *
      have hgl : g < W0.heap.size := HH.out.box.lt
      have hwl : w.heap.size < W0.heap.size := HX.out.lt
      have z0 : ∀ u, Below W0.heap.size W0 u → u.cell? ⟨g, 0, none⟩ = some (.slice x.AD x.nD x.cD) := fun u H => (H.cell (p := ⟨g, 0, none⟩) hgl).trans (HH.out.box.cell 0)
      have z1 : ∀ u, Below W0.heap.size W0 u → u.cell? ⟨w.heap.size, 0, none⟩ = some (.string v.dn) := fun u H => (H.cell (p := ⟨w.heap.size, 0, none⟩) hwl).trans (HX.out.cell 0)
      go_region_held3 (fun u => Below W0.heap.size W0 u) (first | exact Below.refl _ _ | exact Below.drew (Below.refl _ _) | assumption)
        ((go_at_call 40; (with_reducible refine (HP.out _ ?_).mono ?_); (first | assumption | exact Below.drew (Below.refl _ _)); rintro e w1 ⟨rfl, hm1⟩; have hw1 : Below W0.heap.size W0 w1 := (Below.drew (Below.refl _ _)).trans hm1.below; have hw2 : Below W0.drew.heap.size W0.drew w1 := hm1.below; clear hm1))
      all_goals
        have c0 := z0 _ hw1
        go_wp2
        go_ret
        exact ⟨x, by rw [HF.out]; rfl, HH.out.below hw1, by rw [HF.out], Foot.of_below (HB.out.trans (hw1.mono HB.out.size)) HHw.out.le⟩
    · have hl2 : ¬ (64 : Int) ≤ (x.nD : Int) := by omega
      have HNF := Lib.hid hf
      have HLL := Lib.hid hl
      clear hf
      go_enter Tryz.func17, Tryz.ntmps17
      go_upto_region 1 with fail
      generalize w.alloc (.cells #[.string v.dn, .int .i64 v.dl, .slice A n c] 33) = W0 at *
      have hgl : g < W0.heap.size := HH.out.box.lt
      have hwl : w.heap.size < W0.heap.size := HX.out.lt
      have z0 : ∀ u, Below W0.heap.size W0 u → u.cell? ⟨g, 0, none⟩ = some (.slice x.AD x.nD x.cD) := fun u H => (H.cell (p := ⟨g, 0, none⟩) hgl).trans (HH.out.box.cell 0)
      have z1 : ∀ u, Below W0.heap.size W0 u → u.cell? ⟨w.heap.size, 0, none⟩ = some (.string v.dn) := fun u H => (H.cell (p := ⟨w.heap.size, 0, none⟩) hwl).trans (HX.out.cell 0)
      go_region_held3 (fun u => Below W0.heap.size W0 u) (first | exact Below.refl _ _ | exact Below.drew (Below.refl _ _) | assumption)
        ((go_at_call 40; (with_reducible refine (HP.out _ ?_).mono ?_); (first | assumption | exact Below.drew (Below.refl _ _)); rintro e w1 ⟨rfl, hm1⟩; have hw1 : Below W0.heap.size W0 w1 := (Below.drew (Below.refl _ _)).trans hm1.below; have hw2 : Below W0.drew.heap.size W0.drew w1 := hm1.below; clear hm1))
      all_goals
        have HW1 := Lib.hid hw1
        have HH1 := Lib.hid (HH.out.below hw1)
        have HX1 := Lib.hid (HX.out.below hw1 hwl)
        have hE1 := HH1.out.own.sin.hD
        have HE := Lib.hid hE1
        have HL := Lib.hid HH1.out.own.lD
        have c0 := z0 _ hw1
        have hg1 : g < w1.heap.size := HH1.out.box.lt
        clear z0 z1 HP hE1 hw2
        go_wp2
        go_loopw [5] (fun vi wr => ∃ k q : Nat, vi = .int .i64 (k : Int) ∧ k ≤ x.nD ∧ wr = w1.drewN q ∧ Hid (∀ j, j < k → ∀ b, x.dx[j]? = some b → ltB b.nm v.dn = true)) (fun vi _ => x.nD - (intOf vi).toNat)
        case atStart => exact ⟨0, 0, rfl, Nat.zero_le _, rfl, Lib.hid fun j hj => absurd hj (by omega)⟩
        case round =>
          obtain ⟨k, q, rfl, hk, hwr, HN⟩ := hrel
          clear c0
          have c0 : wr.cell? ⟨g, 0, none⟩ = some (.slice x.AD x.nD x.cD) := by rw [hwr]; exact HH1.out.box.cell 0
          have d0 : wr.cell? ⟨w.heap.size, 0, none⟩ = some (.string v.dn) := by rw [hwr]; exact HX1.out.cell 0
          have HWR := Lib.hid hwr
          clear hwr
          by_cases hkn : k < x.nD
          · have hkb : decide (k < x.nD) = true := decide_eq_true hkn
            obtain ⟨d, hd⟩ : ∃ d, x.dx[k]? = some d := ⟨_, List.getElem?_eq_getElem (by have := HL.out; omega)⟩
            obtain ⟨sb, so, hA, _⟩ := HE.out.at_ hd
            have e0 : wr.cell? ⟨sb, so + k * 3, none⟩ = some (.string d.nm) := by
              have := HE.out
              rw [hA] at this
              rw [HWR.out]
              exact this.get hd 0 rfl
            rw [hA] at c0
            have HA := Lib.hid hA
            by_cases hlt : ltB d.nm v.dn = true
            · have qs : Op.bytesLess d.nm.toList v.dn.toList = true := by rw [less_lt]; exact hlt
              have HNx : Hid (∀ j, j < k + 1 → ∀ b, x.dx[j]? = some b → ltB b.nm v.dn = true) := Lib.hid fun j hj b hb => by
                by_cases e : j = k
                · subst e
                  rw [hd] at hb
                  injection hb with hb
                  subst hb
                  exact hlt
                · exact HN.out j (by omega) b hb
              clear hlt hd hA
              go_upto_region 6 with fail
              go_quiet (fail)
              have HVe : Hid (wr.drewN nq = w1.drewN (q + nq)) := Lib.hid (by rw [HWR.out, World.drewN_drewN])
              go_wp2
              go_roundw
              case rel => exact ⟨k + 1, q + nq, by go_num, by omega, HVe.out, HNx⟩
              case measure => simp only [intOf]; omega
            · have hlf : ltB d.nm v.dn = false := by simpa using hlt
              have qs : Op.bytesLess d.nm.toList v.dn.toList = false := by rw [less_lt]; exact hlf
              have HPUT : Hid (∀ y : DX, y.m = ⟨v.dn, v.dl, v.ss⟩ → defS x.st v = (⟨(x.dx.take k ++ y :: x.dx.drop k).map DX.m, x.gs, x.nx⟩, 0)) := Lib.hid fun y hy =>
                defS_put HNF.out (by rw [← HHw.out.own.lD]; exact HLL.out) (by have := HL.out; omega) HN.out (fun b hb => by rw [hd] at hb; injection hb with hb; subst hb; exact hlf) hy
              clear hlt hlf hd hA
              go_upto_region 6 with fail
              go_quiet (fail)
              have HVb : Hid (Below w1.heap.size w1 (wr.drewN nq)) := Lib.hid (by rw [HWR.out]; exact ⟨rfl, rfl, rfl, Nat.le_refl _, fun _ _ => rfl⟩)
              go_upto_region 8 with fail
              generalize wr.drewN nq = V at *
              clear c0 d0 e0
              have HVd := Lib.hid (Below.drew HVb.out)
              have HHV := Lib.hid (HH1.out.below HVd.out)
              have HXV := Lib.hid (HX1.out.below HVd.out HX1.out.lt)
              have HBV := Lib.hid ((HB.out.trans (HW1.out.mono HB.out.size)).trans (HVd.out.mono (Nat.le_trans HB.out.size HW1.out.size)))
              have v0 : V.drew.cell? ⟨w.heap.size, 0, none⟩ = some (.string v.dn) := HXV.out.cell 0
              have v1 : V.drew.cell? ⟨w.heap.size, 1, none⟩ = some (.int .i64 v.dl) := HXV.out.cell 1
              have v2 : V.drew.cell? ⟨w.heap.size, 2, none⟩ = some (.slice A n c) := HXV.out.cell 2
              have g0 : V.drew.cell? ⟨g, 0, none⟩ = some (.slice x.AD x.nD x.cD) := HHV.out.box.cell 0
              have HO : Hid (Calls Tryz.prog 34 #[.agg #[.string v.dn, .int .i64 v.dl, .slice A n c]] V.drew (Owned V.drew v.dn v.dl n v.ss)) := Lib.hid
                (Df.own_any v.dn v.dl A c v.ss n V.drew HD.out.1 (by have := HD.out.1; have := HD.out.2.1.2.1; omega) (HD.out.2.2.1.on (HW1.out.trans (HVd.out.mono HW1.out.size))) HD.out.2.2.2)
              go_region_with (first
                | (go_at_call 34; (with_reducible refine HO.out.mono ?_); rintro e w2 ⟨A3, c3, rfl, ho3, hb3⟩; have HO3 := Lib.hid (own_low ho3 (show R ≤ V.drew.heap.size from HHV.out.le)); have HB2 := Lib.hid (HBV.out.trans (hb3.mono (show w.heap.size ≤ V.drew.heap.size from HBV.out.size))); have HH2 := Lib.hid (HHV.out.below hb3); have g20 : w2.cell? ⟨g, 0, none⟩ = some (.slice x.AD x.nD x.cD) := HH2.out.box.cell 0; have f20 := HH2.out.box.frozen 0; have l20 : g < w2.heap.size := HH2.out.box.lt; have HI := Lib.hid (insert_any R x.AD x.nD x.cD x.dx k w2.heap.size ⟨v.dn, v.dl, v.ss, A3, n, c3⟩ (w2.alloc (.cells #[.string v.dn, .int .i64 v.dl, .slice A3 n c3] 33)) HH2.out.own.lD hb (Nat.le_trans HH2.out.le (by simp)) (HH2.out.own.oD.alloc _) (Box.new _ _ _) (fun e => by have := (own_blk HH2.out.own.oD e).2.choose_spec.lt; omega) hk); clear ho3 hb3)
                | (go_at_call 42; (with_reducible refine HI.out.mono ?_); rintro e w3 ⟨A', c', rfl, ho', hg'⟩; have HFIN := Lib.hid (here_ins (y := ⟨v.dn, v.dl, v.ss, A3, n, c3⟩) HHw.out HB2.out HD.out.1 HD.out.2.1 HO3.out hg' ho'); have HG3 : Hid (w3.cell? ⟨g, 0, none⟩ = some (.slice x.AD x.nD x.cD) ∧ w3.frozen? ⟨g, 0, none⟩ = false) := Lib.hid (by
                    have hb : Box w3 g 27 x.arr := (hg'.block g (by simp; omega) (fun e => by have := (own_blk HH2.out.own.oD e.symm).1; have := HH2.out.lt; omega)).trans (HH2.out.box.alloc _)
                    exact ⟨hb.cell 0, hb.frozen 0⟩); obtain ⟨g30, f30⟩ := HG3.out; clear ho' hg'))
              all_goals
                go_wp2
                go_ret
                exact ⟨_, by rw [HPUT.out ⟨v.dn, v.dl, v.ss, A3, n, c3⟩ rfl]; rfl, HFIN.out.1, by rw [HPUT.out ⟨v.dn, v.dl, v.ss, A3, n, c3⟩ rfl]; rfl, HFIN.out.2⟩
          · obtain rfl : k = x.nD := by omega
            have hkb : decide (x.nD < x.nD) = false := by simp
            have HPUT : Hid (∀ y : DX, y.m = ⟨v.dn, v.dl, v.ss⟩ → defS x.st v = (⟨(x.dx.take x.nD ++ y :: x.dx.drop x.nD).map DX.m, x.gs, x.nx⟩, 0)) := Lib.hid fun y hy =>
              defS_put HNF.out (by rw [← HHw.out.own.lD]; exact HLL.out) (by have := HL.out; omega) HN.out (fun b hb => by have := El.at_lt hb; have := HL.out; omega) hy
            go_upto_region 6 with fail
            go_quiet (fail)
            have HVb : Hid (Below w1.heap.size w1 (wr.drewN nq)) := Lib.hid (by rw [HWR.out]; exact ⟨rfl, rfl, rfl, Nat.le_refl _, fun _ _ => rfl⟩)
            go_upto_region 8 with fail
            generalize wr.drewN nq = V at *
            clear c0 d0
            have HVd := Lib.hid (Below.drew HVb.out)
            have HHV := Lib.hid (HH1.out.below HVd.out)
            have HXV := Lib.hid (HX1.out.below HVd.out HX1.out.lt)
            have HBV := Lib.hid ((HB.out.trans (HW1.out.mono HB.out.size)).trans (HVd.out.mono (Nat.le_trans HB.out.size HW1.out.size)))
            have v0 : V.drew.cell? ⟨w.heap.size, 0, none⟩ = some (.string v.dn) := HXV.out.cell 0
            have v1 : V.drew.cell? ⟨w.heap.size, 1, none⟩ = some (.int .i64 v.dl) := HXV.out.cell 1
            have v2 : V.drew.cell? ⟨w.heap.size, 2, none⟩ = some (.slice A n c) := HXV.out.cell 2
            have g0 : V.drew.cell? ⟨g, 0, none⟩ = some (.slice x.AD x.nD x.cD) := HHV.out.box.cell 0
            have HO : Hid (Calls Tryz.prog 34 #[.agg #[.string v.dn, .int .i64 v.dl, .slice A n c]] V.drew (Owned V.drew v.dn v.dl n v.ss)) := Lib.hid
              (Df.own_any v.dn v.dl A c v.ss n V.drew HD.out.1 (by have := HD.out.1; have := HD.out.2.1.2.1; omega) (HD.out.2.2.1.on (HW1.out.trans (HVd.out.mono HW1.out.size))) HD.out.2.2.2)
            go_region_with (first
              | (go_at_call 34; (with_reducible refine HO.out.mono ?_); rintro e w2 ⟨A3, c3, rfl, ho3, hb3⟩; have HO3 := Lib.hid (own_low ho3 (show R ≤ V.drew.heap.size from HHV.out.le)); have HB2 := Lib.hid (HBV.out.trans (hb3.mono (show w.heap.size ≤ V.drew.heap.size from HBV.out.size))); have HH2 := Lib.hid (HHV.out.below hb3); have g20 : w2.cell? ⟨g, 0, none⟩ = some (.slice x.AD x.nD x.cD) := HH2.out.box.cell 0; have f20 := HH2.out.box.frozen 0; have l20 : g < w2.heap.size := HH2.out.box.lt; have HI := Lib.hid (insert_any R x.AD x.nD x.cD x.dx x.nD w2.heap.size ⟨v.dn, v.dl, v.ss, A3, n, c3⟩ (w2.alloc (.cells #[.string v.dn, .int .i64 v.dl, .slice A3 n c3] 33)) HH2.out.own.lD hb (Nat.le_trans HH2.out.le (by simp)) (HH2.out.own.oD.alloc _) (Box.new _ _ _) (fun e => by have := (own_blk HH2.out.own.oD e).2.choose_spec.lt; omega) hk); clear ho3 hb3)
              | (go_at_call 42; (with_reducible refine HI.out.mono ?_); rintro e w3 ⟨A', c', rfl, ho', hg'⟩; have HFIN := Lib.hid (here_ins (y := ⟨v.dn, v.dl, v.ss, A3, n, c3⟩) HHw.out HB2.out HD.out.1 HD.out.2.1 HO3.out hg' ho'); have HG3 : Hid (w3.cell? ⟨g, 0, none⟩ = some (.slice x.AD x.nD x.cD) ∧ w3.frozen? ⟨g, 0, none⟩ = false) := Lib.hid (by
                  have hb : Box w3 g 27 x.arr := (hg'.block g (by simp; omega) (fun e => by have := (own_blk HH2.out.own.oD e.symm).1; have := HH2.out.lt; omega)).trans (HH2.out.box.alloc _)
                  exact ⟨hb.cell 0, hb.frozen 0⟩); obtain ⟨g30, f30⟩ := HG3.out; clear ho' hg'))
            all_goals
              go_wp2
              go_ret
              exact ⟨_, by rw [HPUT.out ⟨v.dn, v.dl, v.ss, A3, n, c3⟩ rfl]; rfl, HFIN.out.1, by rw [HPUT.out ⟨v.dn, v.dl, v.ss, A3, n, c3⟩ rfl]; rfl, HFIN.out.2⟩
  · rw [hf] at HP
    have HF := Lib.hid (defS_there (x := x) (v := v) hf)
    clear hf
    have hne : ((i : Int) == -1) = false := by simp only [beq_eq_false_iff_ne, ne_eq]; omega
    go_enter Tryz.func17, Tryz.ntmps17
    go_upto_region 1 with fail
    generalize w.alloc (.cells #[.string v.dn, .int .i64 v.dl, .slice A n c] 33) = W0 at *
    have hgl : g < W0.heap.size := HH.out.box.lt
    have hwl : w.heap.size < W0.heap.size := HX.out.lt
    have z0 : ∀ u, Below W0.heap.size W0 u → u.cell? ⟨g, 0, none⟩ = some (.slice x.AD x.nD x.cD) := fun u H => (H.cell (p := ⟨g, 0, none⟩) hgl).trans (HH.out.box.cell 0)
    have z1 : ∀ u, Below W0.heap.size W0 u → u.cell? ⟨w.heap.size, 0, none⟩ = some (.string v.dn) := fun u H => (H.cell (p := ⟨w.heap.size, 0, none⟩) hwl).trans (HX.out.cell 0)
    go_region_held3 (fun u => Below W0.heap.size W0 u) (first | exact Below.refl _ _ | exact Below.drew (Below.refl _ _) | assumption)
      ((go_at_call 40; (with_reducible refine (HP.out _ ?_).mono ?_); (first | assumption | exact Below.drew (Below.refl _ _)); rintro e w1 ⟨rfl, hm1⟩; have hw1 : Below W0.heap.size W0 w1 := (Below.drew (Below.refl _ _)).trans hm1.below; have hw2 : Below W0.drew.heap.size W0.drew w1 := hm1.below; clear hm1))
    all_goals
      go_wp2
      go_ret
      exact ⟨x, by rw [HF.out]; rfl, HH.out.below hw1, by rw [HF.out], Foot.of_below (HB.out.trans (hw1.mono HB.out.size)) HHw.out.le⟩
end Go.Proofs.YteejocnogpaifaaGreatDoor.Tt

namespace Go.Proofs.YteejocnogpaifaaGreatDoor.Tt
open Go.RowKit
open Go.Proofs.YteejocnogpaifaaGreatDoor.El
open Go.Proofs.YteejocnogpaifaaGreatDoor.Df
open Go.Proofs.YteejocnogpaifaaGreatDoor.Bo (P Made ret_int ret_bool)
open Go.Proofs.YteejocnogpaifaaGreatDoor.Sa (Sg Cm)
open Go.Proofs.YteejocnogpaifaaGreatDoor.Co (Ev Mod)

/-! ### Three cells of a row, written -/
theorem own_cell {w : World} {base : Nat} {e : TypeId} {size r n c : Nat} {xs : List Value} (h : w.ownsRow base e size (.slice (some ⟨r, 0, none⟩) n c) n xs) (j : Nat) (u : Value) : (w.setCell ⟨r, j, none⟩ u).ownsRow base e size (.slice (some ⟨r, 0, none⟩) n c) n (xs.set j u) := by
  obtain ⟨h1, h2⟩ := h
  refine ⟨by simpa using h1, .inr ?_⟩
  rcases h2 with ⟨h3, _⟩ | ⟨g, cap, cur, hv, hg, hh, hc, hm, hs, ht⟩
  · cases h3
  · injection hv with hv1 hv2 hv3
    injection hv1 with hv1
    injection hv1 with hv1
    subst hv1 hv3
    refine ⟨r, c, cur.setIfInBounds j u, rfl, hg, ?_, hc, hm, by simpa using hs, ?_⟩
    · show (w.heap.modify r _)[r]? = _
      rw [Array.getElem?_modify, if_pos rfl, hh]
      rfl
    · rw [← ht, Array.toList_setIfInBounds, List.take_set]
theorem set3 (l : List DX) (y : DX) (i : Nat) (hi : i < l.length) : (((l.flatMap DX.cells).set (i * 3) (.string y.nm)).set (i * 3 + 1) (.int .i64 y.dl)).set (i * 3 + 2) (.slice y.A y.n y.c) = (l.set i y).flatMap DX.cells := by
  induction l generalizing i with
  | nil => simp at hi
  | cons x r ih =>
    cases i with
    | zero => rfl
    | succ i =>
      have e0 : (i + 1) * 3 = i * 3 + 3 := by omega
      have hl : (DX.cells x).length = 3 := rfl
      rw [e0, List.flatMap_cons, List.set_append_right _ _ (by omega), List.set_append_right _ _ (by omega), List.set_append_right _ _ (by omega), hl, List.set_cons_succ, List.flatMap_cons]
      rw [show i * 3 + 3 - 3 = i * 3 by omega, show i * 3 + 3 + 1 - 3 = i * 3 + 1 by omega, show i * 3 + 3 + 2 - 3 = i * 3 + 2 by omega, ih i (by simpa using hi)]
theorem set9 (l : List Sg) (y : Sg) (i : Nat) (hi : i < l.length) : (((((((((l.flatMap sgc).set (i * 9) (.int .i64 y.id)).set (i * 9 + 1) (.string y.dn)).set (i * 9 + 2) (.int .i64 y.st)).set (i * 9 + 3) (.int .i64 y.ph)).set (i * 9 + 4) (.int .i64 y.sp)).set (i * 9 + 5) (.int .i64 y.tr)).set (i * 9 + 6) (.bool y.out)).set (i * 9 + 7) (.int .i64 y.at_)).set (i * 9 + 8) (.int .i64 y.sk) = (l.set i y).flatMap sgc := by
  induction l generalizing i with
  | nil => simp at hi
  | cons x r ih =>
    cases i with
    | zero => rfl
    | succ i =>
      have e0 : (i + 1) * 9 = i * 9 + 9 := by omega
      have hl : (sgc x).length = 9 := rfl
      rw [e0, List.flatMap_cons]
      rw [List.set_append_right _ _ (by omega), List.set_append_right _ _ (by omega), List.set_append_right _ _ (by omega), List.set_append_right _ _ (by omega), List.set_append_right _ _ (by omega), List.set_append_right _ _ (by omega), List.set_append_right _ _ (by omega), List.set_append_right _ _ (by omega), List.set_append_right _ _ (by omega), hl, List.set_cons_succ, List.flatMap_cons]
      rw [show i * 9 + 9 - 9 = i * 9 by omega, show i * 9 + 9 + 1 - 9 = i * 9 + 1 by omega, show i * 9 + 9 + 2 - 9 = i * 9 + 2 by omega, show i * 9 + 9 + 3 - 9 = i * 9 + 3 by omega, show i * 9 + 9 + 4 - 9 = i * 9 + 4 by omega, show i * 9 + 9 + 5 - 9 = i * 9 + 5 by omega, show i * 9 + 9 + 6 - 9 = i * 9 + 6 by omega, show i * 9 + 9 + 7 - 9 = i * 9 + 7 by omega, show i * 9 + 9 + 8 - 9 = i * 9 + 8 by omega, ih i (by simpa using hi)]

/-- in the midst of the copying: the state's block h, the result's behind it, both rows copied, the first k definitions' steps too -/
structure Mid (w wr : World) (x : SV) (A1 : Option Addr) (c1 : Nat) (A2 : Option Addr) (c2 k : Nat) (dy : List DX) : Prop where
  bel : Below w.heap.size w wr
  box : Box wr w.heap.size 27 #[.slice A1 x.nD c1, .slice A2 x.nS c2, .int .i64 x.nx]
  res : Box wr (w.heap.size + 1) 27 #[.slice none 0 0, .slice none 0 0, .int .i64 0]
  oD : wr.ownsRow (w.heap.size + 2) 33 3 (.slice A1 x.nD c1) x.nD (dy.flatMap DX.cells)
  oS : wr.ownsRow (w.heap.size + 2) 49 9 (.slice A2 x.nS c2) x.nS (x.gs.flatMap sgc)
  len : dy.length = x.dx.length
  same : dy.map DX.m = x.dx.map DX.m
  done : ∀ j, j < k → ∀ d, dy[j]? = some d → d.n = d.ss.length ∧ Mod d.nm d.ss ∧ wr.ownsRow (w.heap.size + 2) 54 12 (.slice d.A d.n d.c) d.n (cellsS d.ss)
  todo : ∀ j, k ≤ j → dy[j]? = x.dx[j]?
section
variable {w wr w' : World} {x : SV} {A1 A2 : Option Addr} {c1 c2 k : Nat} {dy : List DX}
theorem Mid.on (h : Mid w wr x A1 c1 A2 c2 k dy) (hb : Below wr.heap.size wr w') : Mid w w' x A1 c1 A2 c2 k dy :=
  ⟨h.bel.trans (hb.mono h.bel.size), h.box.below hb h.box.lt, h.res.below hb h.res.lt, own_stay h.oD fun i hi => hb.block i (own_blk h.oD hi).2.choose_spec.lt, own_stay h.oS fun i hi => hb.block i (own_blk h.oS hi).2.choose_spec.lt, h.len, h.same, fun j hj d hd => ⟨(h.done j hj d hd).1, (h.done j hj d hd).2.1, own_stay (h.done j hj d hd).2.2 fun i hi => hb.block i (own_blk (h.done j hj d hd).2.2 hi).2.choose_spec.lt⟩, h.todo⟩
theorem Mid.cells (h : Mid w wr x A1 c1 A2 c2 k dy) : wr.cell? ⟨w.heap.size, 0, none⟩ = some (.slice A1 x.nD c1) ∧ wr.cell? ⟨w.heap.size, 1, none⟩ = some (.slice A2 x.nS c2) ∧ wr.cell? ⟨w.heap.size, 2, none⟩ = some (.int .i64 x.nx) := ⟨h.box.cell 0, h.box.cell 1, h.box.cell 2⟩
theorem Mid.put {q : Nat} {d y : DX} (h : Mid w wr x (some ⟨q, 0, none⟩) c1 A2 c2 k dy) (hd : dy[k]? = some d) (hm : y.m = d.m) (h1 : y.n = y.ss.length) (h2 : Mod y.nm y.ss)
    (h3 : wr.ownsRow (w.heap.size + 2) 54 12 (.slice y.A y.n y.c) y.n (cellsS y.ss)) :
    Mid w (((wr.setCell ⟨q, k * 3, none⟩ (.string y.nm)).setCell ⟨q, k * 3 + 1, none⟩ (.int .i64 y.dl)).setCell ⟨q, k * 3 + 2, none⟩ (.slice y.A y.n y.c)) x (some ⟨q, 0, none⟩) c1 A2 c2 (k + 1) (dy.set k y) := by
  have hk : k < dy.length := El.at_lt hd
  obtain ⟨hq, cur, hc⟩ := own_blk h.oD (i := q) rfl
  have hrow := own_cell (own_cell (own_cell h.oD (k * 3) (.string y.nm)) (k * 3 + 1) (.int .i64 y.dl)) (k * 3 + 2) (.slice y.A y.n y.c)
  rw [set3 dy y k hk] at hrow
  have hoth : ∀ i, i ≠ q → ((((wr.setCell ⟨q, k * 3, none⟩ (.string y.nm)).setCell ⟨q, k * 3 + 1, none⟩ (.int .i64 y.dl)).setCell ⟨q, k * 3 + 2, none⟩ (.slice y.A y.n y.c)).heap[i]? = wr.heap[i]?) := fun i hi =>
    ((Below.heap_setCell _ ⟨q, k * 3 + 2, none⟩ _ i hi).trans (Below.heap_setCell _ ⟨q, k * 3 + 1, none⟩ _ i hi)).trans (Below.heap_setCell _ ⟨q, k * 3, none⟩ _ i hi)
  have hne : ∀ {t : TypeId} {cs : Array Value} {g : Nat}, Box wr g t cs → t ≠ 33 → g ≠ q := fun hb ht e => by subst e; exact Box.apart hb hc ht rfl
  have hst : ∀ {e : TypeId} {k' n' : Nat} {v : Value} {xs : List Value}, wr.ownsRow (w.heap.size + 2) e k' v n' xs → e ≠ 33 → (((wr.setCell ⟨q, k * 3, none⟩ (.string y.nm)).setCell ⟨q, k * 3 + 1, none⟩ (.int .i64 y.dl)).setCell ⟨q, k * 3 + 2, none⟩ (.slice y.A y.n y.c)).ownsRow (w.heap.size + 2) e k' v n' xs := fun ho he =>
    own_stay ho fun i hi => hoth i (hne (own_blk ho hi).2.choose_spec he)
  refine ⟨below_put (below_put (below_put h.bel (by omega) _ _) (by omega) _ _) (by omega) _ _, (hoth _ (hne h.box (by decide))).trans h.box, (hoth _ (hne h.res (by decide))).trans h.res, hrow, hst h.oS (by decide), by rw [List.length_set, h.len], ?_, fun j hj e he => ?_, fun j hj => ?_⟩
  · rw [← h.same]
    apply List.ext_getElem?
    intro j
    rw [List.getElem?_map, List.getElem?_map, List.getElem?_set]
    split
    · next e =>
      subst e
      rw [hd]
      exact congrArg some hm
    · rfl
  · rw [List.getElem?_set] at he
    split at he
    · next e =>
      injection he with he
      subst he
      exact ⟨h1, h2, hst h3 (by decide)⟩
    · next e =>
      have := h.done j (by omega) _ he
      exact ⟨this.1, this.2.1, hst this.2.2 (by decide)⟩
  · rw [List.getElem?_set_ne (by omega)]
    exact h.todo j (by omega)
theorem Mid.at_ (h : Mid w wr x A1 c1 A2 c2 k dy) (hn : x.nD = x.dx.length) {d : DX} (hd : x.dx[k]? = some d) : dy[k]? = some d ∧ ∃ q, A1 = some ⟨q, 0, none⟩ ∧ wr.cell? ⟨q, k * 3, none⟩ = some (.string d.nm) ∧ wr.cell? ⟨q, k * 3 + 1, none⟩ = some (.int .i64 d.dl) ∧ wr.cell? ⟨q, k * 3 + 2, none⟩ = some (.slice d.A d.n d.c) ∧ q < wr.heap.size ∧ (∀ i, wr.frozen? ⟨q, i, none⟩ = false) := by
  have hk := El.at_lt hd
  have hdy : dy[k]? = some d := (h.todo k (Nat.le_refl _)).trans hd
  obtain ⟨q, cur, rfl, _, hb, _⟩ := own_at h.oD (by omega)
  have hE := els_own (by decide) dx_len h.oD
  have e0 := hE.get hdy 0 rfl
  have e1 := hE.get hdy 1 rfl
  have e2 := hE.get hdy 2 rfl
  rw [Nat.zero_add] at e0 e1 e2
  exact ⟨hdy, q, rfl, e0, e1, e2, hb.lt, hb.frozen⟩
theorem Mid.atq {q : Nat} (h : Mid w wr x (some ⟨q, 0, none⟩) c1 A2 c2 k dy) {d : DX} (hd : dy[k]? = some d) : wr.cell? ⟨q, k * 3, none⟩ = some (.string d.nm) ∧ wr.cell? ⟨q, k * 3 + 1, none⟩ = some (.int .i64 d.dl) ∧ wr.cell? ⟨q, k * 3 + 2, none⟩ = some (.slice d.A d.n d.c) ∧ (∀ i, wr.frozen? ⟨q, i, none⟩ = false) := by
  obtain ⟨_, cur, hb⟩ := own_blk h.oD (i := q) rfl
  have hE := els_own (by decide) dx_len h.oD
  have e0 := hE.get hd 0 rfl
  have e1 := hE.get hd 1 rfl
  have e2 := hE.get hd 2 rfl
  rw [Nat.zero_add] at e0 e1 e2
  exact ⟨e0, e1, e2, hb.frozen⟩
theorem Mid.out (h : Mid w wr x A1 c1 A2 c2 x.nD dy) (hx : SIn w x) : SOwn wr (w.heap.size + 2) ⟨A1, x.nD, c1, A2, x.nS, c2, x.nx, dy, x.gs⟩ :=
  ⟨by show x.nD = dy.length; rw [h.len, hx.lD], hx.lS, h.oD, h.oS, fun d hd => by
    obtain ⟨j, hj⟩ := List.mem_iff_getElem?.1 hd
    have := h.done j (by rw [hx.lD, ← h.len]; exact El.at_lt hj) d hj
    exact ⟨this.1, this.2.1, this.2.2⟩⟩
end
theorem mid_start {w W0 w1 w2 : World} {x : SV} {A1 A2 : Option Addr} {c1 c2 : Nat} (hW : Below w.heap.size w W0) (hs : W0.heap.size = w.heap.size + 2) (hb1 : Box W0 w.heap.size 27 #[.slice x.AD x.nD x.cD, .slice x.AS x.nS x.cS, .int .i64 x.nx])
    (hb2 : Box W0 (w.heap.size + 1) 27 #[.slice none 0 0, .slice none 0 0, .int .i64 0]) (ho1 : w1.ownsRow W0.drew.heap.size 33 3 (.slice A1 x.nD c1) x.nD (x.dx.flatMap DX.cells)) (hu1 : Below W0.drew.heap.size W0.drew w1)
    (ho2 : w2.ownsRow w1.heap.size 49 9 (.slice A2 x.nS c2) x.nS (x.gs.flatMap sgc)) (hu2 : Below w1.heap.size w1 w2) :
    Mid w ((w2.setCell ⟨w.heap.size, 0, none⟩ (.slice A1 x.nD c1)).setCell ⟨w.heap.size, 1, none⟩ (.slice A2 x.nS c2)) x A1 c1 A2 c2 0 x.dx := by
  have hs0 : W0.drew.heap.size = w.heap.size + 2 := hs
  have hs1 := hu1.size
  have hb : ∀ (v : World) (i : Nat) (y : Value), Below w.heap.size w v → Below w.heap.size w (v.setCell ⟨w.heap.size, i, none⟩ y) := fun v i y hv => below_put hv (Nat.le_refl _) i y
  have h2 : Below w.heap.size w w2 := ((Below.drew hW).trans (hu1.mono (by omega))).trans (hu2.mono (by omega))
  have hx : ∀ {t : TypeId} {cs : Array Value} {g : Nat}, Box W0 g t cs → g < W0.heap.size → Box w2 g t cs := fun hbx hg => (show Box W0.drew _ _ _ from hbx).below (hu1.trans (hu2.mono hs1)) (by omega)
  have hne : ∀ i, w.heap.size + 2 ≤ i → (((w2.setCell ⟨w.heap.size, 0, none⟩ (.slice A1 x.nD c1)).setCell ⟨w.heap.size, 1, none⟩ (.slice A2 x.nS c2)).heap[i]? = w2.heap[i]?) := fun i hi =>
    (Below.heap_setCell _ ⟨w.heap.size, 1, none⟩ _ i (by show i ≠ w.heap.size; omega)).trans (Below.heap_setCell _ ⟨w.heap.size, 0, none⟩ _ i (by show i ≠ w.heap.size; omega))
  refine ⟨hb _ _ _ (hb _ _ _ h2), ?_, ?_, ?_, ?_, rfl, rfl, fun j hj => absurd hj (by omega), fun _ _ => rfl⟩
  · exact ((hx hb1 (by omega)).put 0 (.slice A1 x.nD c1)).put 1 (.slice A2 x.nS c2)
  · exact ((hx hb2 (by omega)).far (p := ⟨w.heap.size, 0, none⟩) (by show w.heap.size + 1 ≠ w.heap.size; omega) _).far (p := ⟨w.heap.size, 1, none⟩) (by show w.heap.size + 1 ≠ w.heap.size; omega) _
  · refine own_low (own_stay ho1 fun i hi => ?_) (Nat.le_of_eq hs0.symm)
    obtain ⟨h1, cur, h3⟩ := own_blk ho1 hi
    exact (hne i (by omega)).trans (hu2.block i h3.lt)
  · refine own_low (own_stay ho2 fun i hi => hne i ?_) (by omega)
    have := (own_blk ho2 hi).1
    omega
theorem size_st (cs : Array Value) (h : cs.size = 3) : (Tryz.prog.info? 27).map (·.size) = some cs.size := by
  rw [h]
  kernel_rfl
/-- what own answers -/
def OwnIs (w : World) (x : SV) (e : Ending) (w' : World) : Prop :=
  ∃ y : SV, e = .returned (.agg #[.slice y.AD y.nD y.cD, .slice y.AS y.nS y.cS, .int .i64 y.nx]) ∧ SOwn w' w.heap.size y ∧ y.st = x.st ∧ Below w.heap.size w w'
set_option maxHeartbeats 4000000 in
set_option maxRecDepth 100000 in
theorem own_any16 (x : SV) (w : World) (hx : SIn w x) (hb : x.nD ≤ 1000000) (hb' : x.nS ≤ 1000000000) : Calls Tryz.prog 15 #[.agg #[.slice x.AD x.nD x.cD, .slice x.AS x.nS x.cS, .int .i64 x.nx]] w (OwnIs w x) := by
  have HW := Lib.hid (((Below.refl w.heap.size w).alloc (Nat.le_refl _) (.cells #[.slice x.AD x.nD x.cD, .slice x.AS x.nS x.cS, .int .i64 x.nx] 27)).alloc (by simp) (.cells #[.slice none 0 0, .slice none 0 0, .int .i64 0] 27))
  have HB1 := Lib.hid ((Box.new w 27 #[.slice x.AD x.nD x.cD, .slice x.AS x.nS x.cS, .int .i64 x.nx]).alloc (.cells #[.slice none 0 0, .slice none 0 0, .int .i64 0] 27))
  have HB2 := Lib.hid (Sa.box_new2 w (.cells #[.slice x.AD x.nD x.cD, .slice x.AS x.nS x.cS, .int .i64 x.nx] 27) 27 #[.slice none 0 0, .slice none 0 0, .int .i64 0])
  have HS : Hid ((((w.alloc (.cells #[.slice x.AD x.nD x.cD, .slice x.AS x.nS x.cS, .int .i64 x.nx] 27))).alloc (.cells #[.slice none 0 0, .slice none 0 0, .int .i64 0] 27)).heap.size = w.heap.size + 2) := Lib.hid (by simp)
  have HX := Lib.hid hx
  clear hx
  go_enter Tryz.func15, Tryz.ntmps15
  go_upto_region 1 with fail
  generalize (w.alloc (.cells #[.slice x.AD x.nD x.cD, .slice x.AS x.nS x.cS, .int .i64 x.nx] 27)).alloc (.cells #[.slice none 0 0, .slice none 0 0, .int .i64 0] 27) = W0 at *
  have hl : w.heap.size < W0.heap.size := HB1.out.lt
  have z0 : ∀ u, Below W0.heap.size W0 u → u.cell? ⟨w.heap.size, 0, none⟩ = some (.slice x.AD x.nD x.cD) := fun u H => (H.cell (p := ⟨w.heap.size, 0, none⟩) hl).trans (HB1.out.cell 0)
  have z1 : ∀ u, Below W0.heap.size W0 u → u.cell? ⟨w.heap.size, 1, none⟩ = some (.slice x.AS x.nS x.cS) := fun u H => (H.cell (p := ⟨w.heap.size, 1, none⟩) hl).trans (HB1.out.cell 1)
  have y0 : ∀ u, Below W0.heap.size W0 u → u.frozen? ⟨w.heap.size, 0, none⟩ = false := fun u H => (H.frozen (p := ⟨w.heap.size, 0, none⟩) hl).trans (HB1.out.frozen 0)
  have y1 : ∀ u, Below W0.heap.size W0 u → u.frozen? ⟨w.heap.size, 1, none⟩ = false := fun u H => (H.frozen (p := ⟨w.heap.size, 1, none⟩) hl).trans (HB1.out.frozen 1)
  have b0 := y0 _ (Below.drew (Below.refl W0.heap.size W0))
  have b1 := y1 _ (Below.drew (Below.refl W0.heap.size W0))
  have a0 := z0 _ (Below.drew (Below.refl W0.heap.size W0))
  have a1 := z1 _ (Below.drew (Below.refl W0.heap.size W0))
  have HC : Hid (Calls Tryz.prog 32 #[.slice x.AD x.nD x.cD] W0.drew fun e w' => ∃ v, e = .returned v ∧ ClonedAs W0.drew 33 3 x.nD (x.dx.flatMap DX.cells) v w') := Lib.hid
    (cloneD_any x.AD x.nD x.cD x.dx W0.drew HX.out.lD (by omega) (HX.out.on (Below.drew HW.out)).hD HX.out.zD)
  have HD : Hid (∀ u, Below w.heap.size w u → Calls Tryz.prog 33 #[.slice x.AS x.nS x.cS] u fun e w' => ∃ v, e = .returned v ∧ ClonedAs u 49 9 x.nS (x.gs.flatMap sgc) v w') := Lib.hid fun u hu =>
    cloneS_any x.AS x.nS x.cS x.gs u HX.out.lS hb' (HX.out.on hu).hS HX.out.zS
  clear z0 z1 y0 y1
  go_cut [5] (fun _ wc => ∃ (A1 : Option Addr) (c1 : Nat) (A2 : Option Addr) (c2 : Nat), Hid (Mid w wc x A1 c1 A2 c2 0 x.dx))
  case first =>
    go_region_with (first
      | (go_at_call 32; (with_reducible refine HC.out.mono ?_); rintro e w1 ⟨v1, rfl, ho1, hb1⟩; obtain ⟨A1, c1, rfl⟩ := own_form ho1; have HO1 := Lib.hid ho1; have HU1 := Lib.hid hb1; have HW1 := Lib.hid ((Below.drew HW.out).trans (hb1.mono (show w.heap.size ≤ W0.drew.heap.size from HW.out.size))); have a10 := (hb1.cell (p := ⟨w.heap.size, 0, none⟩) hl).trans a0; have a11 := (hb1.cell (p := ⟨w.heap.size, 1, none⟩) hl).trans a1; have b10 := (hb1.frozen (p := ⟨w.heap.size, 0, none⟩) hl).trans b0; have b11 := (hb1.frozen (p := ⟨w.heap.size, 1, none⟩) hl).trans b1; clear ho1 hb1)
      | (go_at_call 33; (with_reducible refine (HD.out w1 HW1.out).mono ?_); rintro e w2 ⟨v2, rfl, ho2, hb2⟩; obtain ⟨A2, c2, rfl⟩ := own_form ho2; have HO2 := Lib.hid ho2; have HU2 := Lib.hid hb2; have hl1 : w.heap.size < w1.heap.size := Nat.lt_of_lt_of_le hl HU1.out.size; have a20 := (hb2.cell (p := ⟨w.heap.size, 0, none⟩) hl1).trans a10; have a21 := (hb2.cell (p := ⟨w.heap.size, 1, none⟩) hl1).trans a11; have b20 := (hb2.frozen (p := ⟨w.heap.size, 0, none⟩) hl1).trans b10; have b21 := (hb2.frozen (p := ⟨w.heap.size, 1, none⟩) hl1).trans b11; clear ho2 hb2))
    all_goals
      go_wp2
      go_meet
      exact ⟨_, _, _, _, Lib.hid (mid_start HW.out HS.out HB1.out HB2.out HO1.out HU1.out HO2.out HU2.out)⟩
  case rest =>
    obtain ⟨A1, c1, A2, c2, HM⟩ := hcut
    clear HC HD b0 b1 a0 a1 HB1 HB2 HS HW hl
    have HN := Lib.hid HX.out.lD
    obtain ⟨m0, m1, m2⟩ := HM.out.cells
    go_wp2
    go_loopw [16] (fun vi wr => ∃ (k : Nat) (dy : List DX), vi = .int .i64 (k : Int) ∧ k ≤ x.nD ∧ Hid (Mid w wr x A1 c1 A2 c2 k dy)) (fun vi _ => x.nD - (intOf vi).toNat)
    case atStart => exact ⟨0, x.dx, rfl, Nat.zero_le _, HM⟩
    case round =>
      obtain ⟨k, dy, rfl, hk, HI⟩ := hrel
      clear m0 m1 m2 HM
      by_cases hkn : k < x.nD
      · obtain ⟨d, hd⟩ : ∃ d, x.dx[k]? = some d := ⟨_, List.getElem?_eq_getElem (by have := HN.out; omega)⟩
        have hdin := (HX.out.each d (List.mem_of_getElem? hd)).on HI.out.bel
        obtain ⟨hdy, q, rfl, e0, e1, e2, hq, hfz⟩ := HI.out.at_ HN.out hd
        have HDY := Lib.hid hdy
        have HDI := Lib.hid hdin
        obtain ⟨dnm, ddl, dss, dA, dn, dc⟩ := d
        dsimp only at e0 e1 e2
        have HB0 := Lib.hid ((Below.refl wr.heap.size wr).alloc (Nat.le_refl _) (.cells #[.string dnm, .int .i64 ddl, .slice dA dn dc] 33))
        have HBX := Lib.hid (Box.new wr 33 #[.string dnm, .int .i64 ddl, .slice dA dn dc])
        have HI0 := Lib.hid (HI.out.on HB0.out)
        have hwl : w.heap.size < wr.heap.size := HI.out.box.lt
        clear hd hdy hdin
        go_upto_region 5 with fail
        generalize wr.alloc (.cells #[.string dnm, .int .i64 ddl, .slice dA dn dc] 33) = W0 at *
        have b0 : W0.drew.cell? ⟨wr.heap.size, 0, none⟩ = some (.string dnm) := HBX.out.cell 0
        have b1 : W0.drew.cell? ⟨wr.heap.size, 1, none⟩ = some (.int .i64 ddl) := HBX.out.cell 1
        have b2 : W0.drew.cell? ⟨wr.heap.size, 2, none⟩ = some (.slice dA dn dc) := HBX.out.cell 2
        have n0 : W0.drew.cell? ⟨w.heap.size, 0, none⟩ = some (.slice (some ⟨q, 0, none⟩) x.nD c1) := HI0.out.box.cell 0
        have HO : Hid (Calls Tryz.prog 34 #[.agg #[.string dnm, .int .i64 ddl, .slice dA dn dc]] W0.drew (Owned W0.drew dnm ddl dn dss)) := Lib.hid
          (Df.own_any dnm ddl dA dc dss dn W0.drew HDI.out.en (by have := HDI.out.en; have := HDI.out.mod.2.1; dsimp only at *; omega) (HDI.out.on (Below.drew HB0.out)).mem HDI.out.nil)
        go_region_with (go_at_call 34; (with_reducible refine HO.out.mono ?_); rintro e w1 ⟨A3, c3, rfl, ho3, hb3⟩; have HO3 := Lib.hid ho3; have HI1 := Lib.hid (HI0.out.on (show Below W0.heap.size W0 w1 from (Below.drew (Below.refl _ _)).trans hb3)); have n1 : w1.cell? ⟨w.heap.size, 0, none⟩ = some (.slice (some ⟨q, 0, none⟩) x.nD c1) := HI1.out.box.cell 0; obtain ⟨g0, g1, g2, hfq⟩ := HI1.out.atq HDY.out; have f0 := hfq (k * 3); have f1 := hfq (k * 3 + 1); have f2 := hfq (k * 3 + 2); clear ho3 hb3)
        all_goals
          go_wp2
          go_roundw
          case rel => exact ⟨k + 1, _, by go_num, by omega, Lib.hid (HI1.out.put HDY.out (y := ⟨dnm, ddl, dss, A3, dn, c3⟩) rfl HDI.out.en HDI.out.mod (own_low HO3.out (by have := HI0.out.bel.size; have := HI0.out.res.lt; show w.heap.size + 2 ≤ W0.heap.size; omega)))⟩
          case measure => simp only [intOf]; omega
      · obtain rfl : k = x.nD := by omega
        obtain ⟨m0, m1, m2⟩ := HI.out.cells
        have r0 := HI.out.res.cell 0
        have r1 := HI.out.res.cell 1
        have r2 := HI.out.res.cell 2
        have f0 := HI.out.res.frozen 0
        have f1 := HI.out.res.frozen 1
        have f2 := HI.out.res.frozen 2
        simp only [List.getElem?_toArray, List.getElem?_cons_zero, List.getElem?_cons_succ] at r0 r1 r2
        go_wp2
        refine bodyPost_ret (results_cell_row rfl _ _ (w.heap.size + 1) 27 #[.slice A1 x.nD c1, .slice A2 x.nS c2, .int .i64 x.nx] (0, 0) _ rfl ?_ Tryz.underlying27 rfl (size_st _ rfl)) rfl ⟨⟨A1, x.nD, c1, A2, x.nS, c2, x.nx, dy, x.gs⟩, rfl, ?_, ?_, ?_⟩
        · exact ((HI.out.res.put 0 (.slice A1 x.nD c1)).put 1 (.slice A2 x.nS c2)).put 2 (.int .i64 x.nx)
        · have ho := HI.out.out HX.out
          refine (ho.stay fun i hi _ => ?_).low (by omega)
          have hn : ∀ j : Nat, i ≠ (⟨w.heap.size + 1, j, none⟩ : Addr).block := fun j => by show i ≠ w.heap.size + 1; omega
          exact ((Below.heap_setCell _ ⟨w.heap.size + 1, 2, none⟩ _ i (hn 2)).trans (Below.heap_setCell _ ⟨w.heap.size + 1, 1, none⟩ _ i (hn 1))).trans (Below.heap_setCell _ ⟨w.heap.size + 1, 0, none⟩ _ i (hn 0))
        · show (⟨dy.map DX.m, x.gs, x.nx⟩ : Ms) = _
          rw [HI.out.same]
          rfl
        · exact below_put (below_put (below_put HI.out.bel (by omega) _ _) (by omega) _ _) (by omega) _ _
end Go.Proofs.YteejocnogpaifaaGreatDoor.Tt

namespace Go.Proofs.YteejocnogpaifaaGreatDoor.Tt
open Go.RowKit
open Go.Proofs.YteejocnogpaifaaGreatDoor.El
open Go.Proofs.YteejocnogpaifaaGreatDoor.Df
open Go.Proofs.YteejocnogpaifaaGreatDoor.Bo (P Made ret_int ret_bool)
open Go.Proofs.YteejocnogpaifaaGreatDoor.Sa (Sg Cm Rp cm0)
open Go.Proofs.YteejocnogpaifaaGreatDoor.Co (Ev Mod evc EvIn goodE)

/-- what Do answers -/
def DoIs (w : World) (x : SV) (v : Ev) (lim : Int) (e : Ending) (w' : World) : Prop :=
  ∃ y : SV, e = .returned (.tuple #[.agg y.arr, .agg (doS x.st v lim).2.1.arr, .int .i64 (doS x.st v lim).2.2]) ∧ SOwn w' w.heap.size y ∧ y.st = (doS x.st v lim).1 ∧ Below w.heap.size w w'
theorem sizeT (x : SV) : (Tryz.prog.info? 27).map (·.size) = some x.arr.size := by show (Tryz.prog.info? 27).map (·.size) = some 3; kernel_rfl
theorem oneT (x : SV) : x.arr.all (·.oneCell') = true := by simp [SV.arr, Value.oneCell']
theorem res_st_cm_tmp {fn : Func} {p q u : Tmp} (h : fn.results = #[.cell p 27, .cell q 37, .tmp u]) (tmps : Array Value) (w : World) (g g' : Nat) (s : SV) (c : Cm)
    (hp : tmps.getD p undef = .pointer (some ⟨g, 0, none⟩)) (hq : tmps.getD q undef = .pointer (some ⟨g', 0, none⟩)) (hg : Box w g 27 s.arr) (hg' : Box w g' 37 c.arr) :
    (results fn tmps).run Tryz.prog w = .ok (.tuple #[.agg s.arr, .agg c.arr, tmps.getD u undef]) w := by
  rw [Sa.results_cct h, hp, hq]
  simp only [asAddr, Sem.run_pure, Result.andThen_ok, run_loadVar_row w g _ 27 _ _ _ hg Tryz.underlying27 rfl (sizeT s), run_loadVar_row w g' _ 37 _ _ _ hg' Tryz.underlying37 rfl (Sa.sizeC c)]
theorem here_self {w : World} {g R : Nat} {x : SV} (h : Here w g R x) : Here (w.setRow g x.arr) g R x :=
  ⟨Sa.box_row h.box _, h.own.stay fun i hi _ => setRow_other w g i _ (by have := h.lt; omega), h.lt, by rw [setRow_size]; exact h.le⟩
/-- the blocks that Do lays first -/
structure Four (w W : World) (x : SV) (v : Ev) (A : Option Addr) (n c : Nat) : Prop where
  bel : Below w.heap.size w W
  x3 : Box W w.heap.size 27 x.arr
  v4 : Box W (w.heap.size + 1) 35 #[.int .i64 v.k, .int .i64 v.now, .int .i64 v.sg, .string v.nm, .int .i64 v.r.sg, .int .i64 v.r.sp, .bool v.r.un, .int .i64 v.r.tr, .bool v.r.good, .string v.dn, .int .i64 v.dl, .slice A n c]
  c7 : Box W (w.heap.size + 3) 37 cm0.arr
  z : w.heap.size + 4 ≤ W.heap.size
section
variable {w W U : World} {x y : SV} {v : Ev} {A : Option Addr} {n c : Nat}
theorem Four.on (h : Four w W x v A n c) (hb : Below W.heap.size W U) : Four w U x v A n c :=
  ⟨h.bel.trans (hb.mono h.bel.size), h.x3.below hb h.x3.lt, h.v4.below hb h.v4.lt, h.c7.below hb h.c7.lt, Nat.le_trans h.z hb.size⟩
theorem Four.off (h : Four w W x v A n c) (cs : Array Value) : Four w (W.setRow (w.heap.size + 2) cs) x v A n c :=
  ⟨Sa.below_row h.bel (by omega) _, Sa.box_far h.x3 (by omega) _, Sa.box_far h.v4 (by omega) _, Sa.box_far h.c7 (by omega) _, by rw [setRow_size]; exact h.z⟩
theorem four_cells (h : Four w W x v A n c) : W.cell? ⟨w.heap.size, 0, none⟩ = some (.slice x.AD x.nD x.cD) ∧ W.cell? ⟨w.heap.size, 1, none⟩ = some (.slice x.AS x.nS x.cS) ∧ W.cell? ⟨w.heap.size, 2, none⟩ = some (.int .i64 x.nx) := ⟨h.x3.cell 0, h.x3.cell 1, h.x3.cell 2⟩
theorem box_al4 (w : World) (o o' o2 : Obj) (t : TypeId) (cs : Array Value) : Box ((((w.alloc (.cells cs t)).alloc o).alloc o').alloc o2) w.heap.size t cs := (((Box.new w t cs).alloc o).alloc o').alloc o2
theorem four_new (w : World) (x : SV) (v : Ev) (A : Option Addr) (n c : Nat) : Four w ((((w.alloc (.cells #[.slice x.AD x.nD x.cD, .slice x.AS x.nS x.cS, .int .i64 x.nx] 27)).alloc (.cells #[.int .i64 v.k, .int .i64 v.now, .int .i64 v.sg, .string v.nm, .int .i64 v.r.sg, .int .i64 v.r.sp, .bool v.r.un, .int .i64 v.r.tr, .bool v.r.good, .string v.dn, .int .i64 v.dl, .slice A n c] 35)).alloc (.cells #[.slice none 0 0, .slice none 0 0, .int .i64 0] 27)).alloc (.cells #[.int .i64 0, .int .i64 0, .bool false, .int .i64 0, .string ⟨#[]⟩, .string ⟨#[]⟩] 37)) x v A n c ∧ ((((w.alloc (.cells #[.slice x.AD x.nD x.cD, .slice x.AS x.nS x.cS, .int .i64 x.nx] 27)).alloc (.cells #[.int .i64 v.k, .int .i64 v.now, .int .i64 v.sg, .string v.nm, .int .i64 v.r.sg, .int .i64 v.r.sp, .bool v.r.un, .int .i64 v.r.tr, .bool v.r.good, .string v.dn, .int .i64 v.dl, .slice A n c] 35)).alloc (.cells #[.slice none 0 0, .slice none 0 0, .int .i64 0] 27)).alloc (.cells #[.int .i64 0, .int .i64 0, .bool false, .int .i64 0, .string ⟨#[]⟩, .string ⟨#[]⟩] 37)).heap.size = w.heap.size + 4 ∧ Box ((((w.alloc (.cells #[.slice x.AD x.nD x.cD, .slice x.AS x.nS x.cS, .int .i64 x.nx] 27)).alloc (.cells #[.int .i64 v.k, .int .i64 v.now, .int .i64 v.sg, .string v.nm, .int .i64 v.r.sg, .int .i64 v.r.sp, .bool v.r.un, .int .i64 v.r.tr, .bool v.r.good, .string v.dn, .int .i64 v.dl, .slice A n c] 35)).alloc (.cells #[.slice none 0 0, .slice none 0 0, .int .i64 0] 27)).alloc (.cells #[.int .i64 0, .int .i64 0, .bool false, .int .i64 0, .string ⟨#[]⟩, .string ⟨#[]⟩] 37)) (w.heap.size + 2) 27 #[.slice none 0 0, .slice none 0 0, .int .i64 0] := by
  refine ⟨⟨?_, ?_, ?_, ?_, by simp⟩, by simp, ?_⟩
  · exact ((((Below.refl w.heap.size w).alloc (Nat.le_refl _) _).alloc (by simp) _).alloc (by simp; omega) _).alloc (by simp; omega) _
  · exact box_al4 w _ _ _ _ _
  · exact ((box_new2 w (.cells #[.slice x.AD x.nD x.cD, .slice x.AS x.nS x.cS, .int .i64 x.nx] 27) _ #[.int .i64 v.k, .int .i64 v.now, .int .i64 v.sg, .string v.nm, .int .i64 v.r.sg, .int .i64 v.r.sp, .bool v.r.un, .int .i64 v.r.tr, .bool v.r.good, .string v.dn, .int .i64 v.dl, .slice A n c]).alloc (.cells #[.slice none 0 0, .slice none 0 0, .int .i64 0] 27)).alloc (.cells #[.int .i64 0, .int .i64 0, .bool false, .int .i64 0, .string ⟨#[]⟩, .string ⟨#[]⟩] 37)
  · exact Sa.box_new4 w _ _ _ _ _
  · exact (Sa.box_new3 w _ _ _ _).alloc _
/-- the copy stored -/
theorem here_copy (h : Four w W x v A n c) (hz : W.heap.size = w.heap.size + 4) (hb : Below W.heap.size W U) (hbx : Box W (w.heap.size + 2) 27 #[.slice none 0 0, .slice none 0 0, .int .i64 0]) (ho : SOwn U W.heap.size y) : Four w (U.setRow (w.heap.size + 2) y.arr) x v A n c ∧ Here (U.setRow (w.heap.size + 2) y.arr) (w.heap.size + 2) (w.heap.size + 4) y := by
  refine ⟨(h.on hb).off _, Sa.box_row (hbx.below hb hbx.lt) _, ?_, by omega, by rw [setRow_size]; exact (h.on hb).z⟩
  rw [hz] at ho
  exact ho.stay fun i hi _ => setRow_other U _ i _ (by omega)
/-- the end of it -/
theorem do_end {w' : World} {C : Cm} (hf : Below w.heap.size w U) (hh : Here U (w.heap.size + 2) (w.heap.size + 4) y) (hc : Box U (w.heap.size + 3) 37 C.arr) (hw : w' = (U.setRow (w.heap.size + 2) y.arr).setRow (w.heap.size + 3) C.arr) : SOwn w' w.heap.size y ∧ Below w.heap.size w w' := by
  subst hw
  have h1 := here_self hh
  have h2 : Box (U.setRow (w.heap.size + 2) y.arr) (w.heap.size + 3) 37 C.arr := Sa.box_far hc (by omega) _
  exact ⟨(here_off h1 h2 (by decide) (by decide) (by decide) (by decide) C.arr).own.low (by omega), Sa.below_row (Sa.below_row hf (by omega) _) (by omega) _⟩
end
section
variable (x : SV) (v : Ev) (A : Option Addr) (n c : Nat) (lim : Int) (w : World) (hx : SIn w x) (hi : Inv x.st) (hb2 : x.nS ≤ 1000000000) (hv : EvIn w v A n c) (h0 : A = none → n = 0 ∧ c = 0) (ht : Df.Tab w)
include hx hi hb2 hv h0 ht
omit h0 ht in
set_option maxHeartbeats 4000000 in
set_option maxRecDepth 100000 in
theorem do_bad (hg : goodE v = false) : Calls Tryz.prog 7 #[.agg #[.slice x.AD x.nD x.cD, .slice x.AS x.nS x.cS, .int .i64 x.nx], .agg #[.int .i64 v.k, .int .i64 v.now, .int .i64 v.sg, .string v.nm, .int .i64 v.r.sg, .int .i64 v.r.sp, .bool v.r.un, .int .i64 v.r.tr, .bool v.r.good, .string v.dn, .int .i64 v.dl, .slice A n c], .int .i64 lim] w (DoIs w x v lim) := by
  obtain ⟨hF0, hZ0, hX6⟩ := four_new w x v A n c
  have HX6 := Lib.hid hX6
  have HZ := Lib.hid hZ0
  have H4 := Lib.hid hF0
  have hfew : x.nD ≤ 64 := by have h1 := hx.lD; have h2 := hi.ok.ds.few; have h3 : x.st.ds.length = x.dx.length := List.length_map _; omega
  have HOW := Lib.hid (own_any16 x ((((w.alloc (.cells #[.slice x.AD x.nD x.cD, .slice x.AS x.nS x.cS, .int .i64 x.nx] 27)).alloc (.cells #[.int .i64 v.k, .int .i64 v.now, .int .i64 v.sg, .string v.nm, .int .i64 v.r.sg, .int .i64 v.r.sp, .bool v.r.un, .int .i64 v.r.tr, .bool v.r.good, .string v.dn, .int .i64 v.dl, .slice A n c] 35)).alloc (.cells #[.slice none 0 0, .slice none 0 0, .int .i64 0] 27)).alloc (.cells #[.int .i64 0, .int .i64 0, .bool false, .int .i64 0, .string ⟨#[]⟩, .string ⟨#[]⟩] 37)) (hx.on hF0.bel) (by omega) hb2)
  have HGV := Lib.hid (fun W (hW : Below w.heap.size w W) => Co.good_ev v A n c W (hv.on hW))
  have HHX := Lib.hid hx
  have HHV := Lib.hid hv
  have HF : Hid (doS x.st v lim = (x.st, cm0, 3)) := Lib.hid (by unfold doS; rw [if_pos hg])
  rw [hg] at HGV
  clear hg
  clear hF0 hZ0 hX6 hx hv
  go_enter Tryz.func7, Tryz.ntmps7
  go_upto_region 1 with fail
  generalize ((((w.alloc (.cells #[.slice x.AD x.nD x.cD, .slice x.AS x.nS x.cS, .int .i64 x.nx] 27)).alloc (.cells #[.int .i64 v.k, .int .i64 v.now, .int .i64 v.sg, .string v.nm, .int .i64 v.r.sg, .int .i64 v.r.sp, .bool v.r.un, .int .i64 v.r.tr, .bool v.r.good, .string v.dn, .int .i64 v.dl, .slice A n c] 35)).alloc (.cells #[.slice none 0 0, .slice none 0 0, .int .i64 0] 27)).alloc (.cells #[.int .i64 0, .int .i64 0, .bool false, .int .i64 0, .string ⟨#[]⟩, .string ⟨#[]⟩] 37)) = W0 at *
  obtain ⟨k0, k1, k2⟩ := four_cells H4.out
  go_upto_region 2 with (first
    | (go_at_call 15; (with_reducible refine HOW.out.mono ?_); rintro e w1 ⟨y0, rfl, ho, hst, hb1⟩; have HST := Lib.hid hst; have HC1 := Lib.hid (here_copy H4.out HZ.out hb1 HX6.out ho); have HB6 := Lib.hid (HX6.out.below hb1 HX6.out.lt); clear hst ho hb1)
    | (refine wpList_store_row rfl 27 _ _ rfl (w.heap.size + 2) 27 #[.slice none 0 0, .slice none 0 0, .int .i64 0] y0.arr rfl rfl HB6.out (sizeT y0) rfl (oneT y0) ?_))
  clear k0 k1 k2 HB6 HOW HX6 HZ H4
  generalize w1.setRow (w.heap.size + 2) y0.arr = W1 at *
  have H4 := Lib.hid HC1.out.1
  have HH1 := Lib.hid HC1.out.2
  clear HC1
  obtain ⟨a0, a1, a2, a3, a4, a5, a6, a7, a8, a9, a10, a11⟩ := evc H4.out.v4
  go_upto_region 3 with ((go_at_call 16; (with_reducible refine (HGV.out _ H4.out.bel).mono ?_); rintro e w2 ⟨rfl, hb2'⟩; have H42 := Lib.hid (H4.out.on hb2'); have HH2 := Lib.hid (HH1.out.below hb2'); obtain ⟨k0, k1, k2⟩ := four_cells H42.out; obtain ⟨i0, i1, i2, i3, i4, i5, i6, i7, i8, i9, i10, i11⟩ := evc H42.out.v4; clear hb2'))
  generalize w2 = W5 at *
  have HSS : Hid ((fun u => Box u (w.heap.size + 2) 27 y0.arr ∧ Box u (w.heap.size + 3) 37 cm0.arr) (W5.drew)) := Lib.hid ⟨HH2.out.box.below (Below.drew (Below.refl _ _)) HH2.out.box.lt, H42.out.c7.below (Below.drew (Below.refl _ _)) H42.out.c7.lt⟩
  have z0 : ∀ u, (fun u => Box u (w.heap.size + 2) 27 y0.arr ∧ Box u (w.heap.size + 3) 37 cm0.arr) u → u.cell? ⟨w.heap.size + 1 + 1, 0, none⟩ = some (.slice y0.AD y0.nD y0.cD) := fun u h => h.1.cell 0
  have z1 : ∀ u, (fun u => Box u (w.heap.size + 2) 27 y0.arr ∧ Box u (w.heap.size + 3) 37 cm0.arr) u → u.cell? ⟨w.heap.size + 1 + 1, 1, none⟩ = some (.slice y0.AS y0.nS y0.cS) := fun u h => h.1.cell 1
  have z2 : ∀ u, (fun u => Box u (w.heap.size + 2) 27 y0.arr ∧ Box u (w.heap.size + 3) 37 cm0.arr) u → u.cell? ⟨w.heap.size + 1 + 1, 2, none⟩ = some (.int .i64 y0.nx) := fun u h => h.1.cell 2
  have yc0 : ∀ u, (fun u => Box u (w.heap.size + 2) 27 y0.arr ∧ Box u (w.heap.size + 3) 37 cm0.arr) u → u.cell? ⟨w.heap.size + 1 + 1 + 1, 0, none⟩ = some (.int .i64 cm0.sg) := fun u h => h.2.cell 0
  have yc1 : ∀ u, (fun u => Box u (w.heap.size + 2) 27 y0.arr ∧ Box u (w.heap.size + 3) 37 cm0.arr) u → u.cell? ⟨w.heap.size + 1 + 1 + 1, 1, none⟩ = some (.int .i64 cm0.sp) := fun u h => h.2.cell 1
  have yc2 : ∀ u, (fun u => Box u (w.heap.size + 2) 27 y0.arr ∧ Box u (w.heap.size + 3) 37 cm0.arr) u → u.cell? ⟨w.heap.size + 1 + 1 + 1, 2, none⟩ = some (.bool cm0.un) := fun u h => h.2.cell 2
  have yc3 : ∀ u, (fun u => Box u (w.heap.size + 2) 27 y0.arr ∧ Box u (w.heap.size + 3) 37 cm0.arr) u → u.cell? ⟨w.heap.size + 1 + 1 + 1, 3, none⟩ = some (.int .i64 cm0.tr) := fun u h => h.2.cell 3
  have yc4 : ∀ u, (fun u => Box u (w.heap.size + 2) 27 y0.arr ∧ Box u (w.heap.size + 3) 37 cm0.arr) u → u.cell? ⟨w.heap.size + 1 + 1 + 1, 4, none⟩ = some (.string cm0.pt) := fun u h => h.2.cell 4
  have yc5 : ∀ u, (fun u => Box u (w.heap.size + 2) 27 y0.arr ∧ Box u (w.heap.size + 3) 37 cm0.arr) u → u.cell? ⟨w.heap.size + 1 + 1 + 1, 5, none⟩ = some (.string cm0.key) := fun u h => h.2.cell 5
  refine wp_region_held_drew (S := fun u => Box u (w.heap.size + 2) 27 y0.arr ∧ Box u (w.heap.size + 3) 37 cm0.arr) (by kernel_rfl) (HSS.out) (fun hHeld => ?_)
  refine wpAnyH_take (i := 0) (oi := ⟨some 15, _, _, _, _, _⟩) (v := ?_) rfl (by kernel_rfl) (by kernel_rfl) (by kernel_rfl) (fun _ _ _ h => h) (Or.inl ⟨by rfl, ?_⟩) (by assumption) ?_
  rotate_left
  · (intro u hu; (try dsimp only at hu); go_simp; (try with_reducible rfl))
  (try simp only [Act.put, List.setIfInBounds_toArray, List.set_cons_zero, List.set_cons_succ])
  refine wpAnyH_take (i := 1) (oi := ⟨some 16, _, _, _, _, _⟩) (v := ?_) rfl (by kernel_rfl) (by kernel_rfl) (by kernel_rfl) (fun _ _ _ h => h) (Or.inl ⟨by rfl, ?_⟩) (by assumption) ?_
  rotate_left
  · (intro u hu; (try dsimp only at hu); go_simp; (try with_reducible rfl))
  (try simp only [Act.put, List.setIfInBounds_toArray, List.set_cons_zero, List.set_cons_succ])
  refine wpAnyH_ready (rs := [2]) (by decide +kernel) (by simp) ?_
  refine AllReadyH.cons (o := ⟨none, _, _, _, _, _⟩) rfl (fun K hK => ?_) AllReadyH.nil
  rw [if_pos (by rfl)]
  refine Sa.oper_store_row 27 _ _ rfl (w.heap.size + 2) 27 y0.arr y0.arr rfl rfl HSS.out.1 (sizeT _) rfl (oneT _) ?_
  have HS6 : Hid ((fun u => Box u (w.heap.size + 2) 27 y0.arr ∧ Box u (w.heap.size + 3) 37 cm0.arr) (W5.drew.setRow (w.heap.size + 2) y0.arr)) := Lib.hid ⟨Sa.box_row HSS.out.1 _, Sa.box_far HSS.out.2 (by omega) _⟩
  refine hK.out _ _ ?_ (fun hHeld => ?_)
  · exact HS6.out
  clear hK K
  (try simp only [Act.put])
  refine wpAnyH_ready (rs := [3]) (by decide +kernel) (by simp) ?_
  refine AllReadyH.cons (o := ⟨none, _, _, _, _, _⟩) rfl (fun K hK => ?_) AllReadyH.nil
  rw [if_pos (by rfl)]
  refine Sa.oper_store_row 37 _ _ rfl (w.heap.size + 3) 37 cm0.arr cm0.arr rfl rfl HS6.out.2 (Sa.sizeC _) rfl (Sa.oneC _) ?_
  have HS7 : Hid ((fun u => Box u (w.heap.size + 2) 27 y0.arr ∧ Box u (w.heap.size + 3) 37 cm0.arr) ((W5.drew.setRow (w.heap.size + 2) y0.arr).setRow (w.heap.size + 3) cm0.arr)) := Lib.hid ⟨Sa.box_far HS6.out.1 (by omega) _, Sa.box_row HS6.out.2 _⟩
  refine hK.out _ _ ?_ (fun hHeld => ?_)
  · exact HS7.out
  clear hK K
  (try simp only [Act.put])
  refine wpAnyH_take (i := 4) (oi := ⟨some 8, _, _, _, _, _⟩) (v := ?_) rfl (by kernel_rfl) (by kernel_rfl) (by kernel_rfl) (fun _ _ _ h => h) (Or.inl ⟨by rfl, ?_⟩) (by assumption) ?_
  rotate_left
  · (intro u hu; (try dsimp only at hu); go_simp; (try with_reducible rfl))
  (try simp only [Act.put, List.setIfInBounds_toArray, List.set_cons_zero, List.set_cons_succ])
  refine wpAnyH_done (by kernel_rfl) ?_ _
  go_wp2
  refine bodyPost_ret (res_st_cm_tmp rfl _ _ (w.heap.size + 2) (w.heap.size + 3) y0 cm0 rfl rfl HS7.out.1 HS7.out.2) rfl ?_
  have HE := do_end (w := w) (H42.out.bel.drew) (HH2.out.below (Below.drew (Below.refl _ _))) HSS.out.2 rfl
  refine ⟨y0, ?_, HE.1, ?_, HE.2⟩
  · rw [HF.out]; rfl
  · rw [HF.out]; exact HST.out
set_option maxHeartbeats 4000000 in
set_option maxRecDepth 100000 in
theorem do_define (hg : goodE v = true) (hk : v.k = 0) : Calls Tryz.prog 7 #[.agg #[.slice x.AD x.nD x.cD, .slice x.AS x.nS x.cS, .int .i64 x.nx], .agg #[.int .i64 v.k, .int .i64 v.now, .int .i64 v.sg, .string v.nm, .int .i64 v.r.sg, .int .i64 v.r.sp, .bool v.r.un, .int .i64 v.r.tr, .bool v.r.good, .string v.dn, .int .i64 v.dl, .slice A n c], .int .i64 lim] w (DoIs w x v lim) := by
  obtain ⟨hF0, hZ0, hX6⟩ := four_new w x v A n c
  have HX6 := Lib.hid hX6
  have HZ := Lib.hid hZ0
  have H4 := Lib.hid hF0
  have hfew : x.nD ≤ 64 := by have h1 := hx.lD; have h2 := hi.ok.ds.few; have h3 : x.st.ds.length = x.dx.length := List.length_map _; omega
  have HOW := Lib.hid (own_any16 x ((((w.alloc (.cells #[.slice x.AD x.nD x.cD, .slice x.AS x.nS x.cS, .int .i64 x.nx] 27)).alloc (.cells #[.int .i64 v.k, .int .i64 v.now, .int .i64 v.sg, .string v.nm, .int .i64 v.r.sg, .int .i64 v.r.sp, .bool v.r.un, .int .i64 v.r.tr, .bool v.r.good, .string v.dn, .int .i64 v.dl, .slice A n c] 35)).alloc (.cells #[.slice none 0 0, .slice none 0 0, .int .i64 0] 27)).alloc (.cells #[.int .i64 0, .int .i64 0, .bool false, .int .i64 0, .string ⟨#[]⟩, .string ⟨#[]⟩] 37)) (hx.on hF0.bel) (by omega) hb2)
  have HGV := Lib.hid (fun W (hW : Below w.heap.size w W) => Co.good_ev v A n c W (hv.on hW))
  have HHX := Lib.hid hx
  have HHV := Lib.hid hv
  have HGS := Lib.hid (fun W (hW : Below w.heap.size w W) => good16_any x W (hx.on hW) (tab_below ht hW) (by omega) hb2)
  rw [stB_ok hi.ok] at HGS
  rw [hg] at HGV
  have hny : ∀ {W : World} {y : SV}, Here W (w.heap.size + 2) (w.heap.size + 4) y → y.st = x.st → y.nD ≤ 1000000 ∧ y.nS ≤ 1000000000 := fun {W y} hH hy => by
    have h1 : y.st.ds.length = y.dx.length := List.length_map _
    have h2 : x.st.ds.length = x.dx.length := List.length_map _
    have h3 : y.gs = x.gs := congrArg Ms.gs hy
    have h4 := hH.own.lD
    have h5 := hH.own.lS
    have h6 := hx.lS
    have h7 := hi.ok.ds.few
    rw [hy] at h1
    rw [h3] at h5
    exact ⟨by omega, by omega⟩
  have HF : Hid (doS x.st v lim = ((defS x.st v).1, cm0, (defS x.st v).2)) := Lib.hid (by unfold doS; rw [if_neg (by rw [hg]; simp), if_pos hk])
  have HD := Lib.hid (fun W y (hH : Here W (w.heap.size + 2) (w.heap.size + 4) y) (hy : y.st = x.st) (hW : Below w.heap.size w W) => by
    have hr := define_any y (w.heap.size + 2) (w.heap.size + 4) v A n c W hH (hny hH hy).1 hv.hn hv.mod (hv.on hW).st h0
    unfold DefIs at hr
    rw [hy] at hr
    exact hr)
  have e0 : (v.k == 0) = true := by simp; omega
  clear hk hg hny
  clear hF0 hZ0 hX6 hx hv
  go_enter Tryz.func7, Tryz.ntmps7
  go_upto_region 1 with fail
  generalize ((((w.alloc (.cells #[.slice x.AD x.nD x.cD, .slice x.AS x.nS x.cS, .int .i64 x.nx] 27)).alloc (.cells #[.int .i64 v.k, .int .i64 v.now, .int .i64 v.sg, .string v.nm, .int .i64 v.r.sg, .int .i64 v.r.sp, .bool v.r.un, .int .i64 v.r.tr, .bool v.r.good, .string v.dn, .int .i64 v.dl, .slice A n c] 35)).alloc (.cells #[.slice none 0 0, .slice none 0 0, .int .i64 0] 27)).alloc (.cells #[.int .i64 0, .int .i64 0, .bool false, .int .i64 0, .string ⟨#[]⟩, .string ⟨#[]⟩] 37)) = W0 at *
  obtain ⟨k0, k1, k2⟩ := four_cells H4.out
  go_upto_region 2 with (first
    | (go_at_call 15; (with_reducible refine HOW.out.mono ?_); rintro e w1 ⟨y0, rfl, ho, hst, hb1⟩; have HST := Lib.hid hst; have HC1 := Lib.hid (here_copy H4.out HZ.out hb1 HX6.out ho); have HB6 := Lib.hid (HX6.out.below hb1 HX6.out.lt); clear hst ho hb1)
    | (refine wpList_store_row rfl 27 _ _ rfl (w.heap.size + 2) 27 #[.slice none 0 0, .slice none 0 0, .int .i64 0] y0.arr rfl rfl HB6.out (sizeT y0) rfl (oneT y0) ?_))
  clear k0 k1 k2 HB6 HOW HX6 HZ H4
  generalize w1.setRow (w.heap.size + 2) y0.arr = W1 at *
  have H4 := Lib.hid HC1.out.1
  have HH1 := Lib.hid HC1.out.2
  clear HC1
  obtain ⟨a0, a1, a2, a3, a4, a5, a6, a7, a8, a9, a10, a11⟩ := evc H4.out.v4
  go_upto_region 14 with (first
    | (go_at_call 16; (with_reducible refine (HGV.out _ H4.out.bel).mono ?_); rintro e w2 ⟨rfl, hb2'⟩; have H42 := Lib.hid (H4.out.on hb2'); have HH2 := Lib.hid (HH1.out.below hb2'); obtain ⟨k0, k1, k2⟩ := four_cells H42.out; obtain ⟨i0, i1, i2, i3, i4, i5, i6, i7, i8, i9, i10, i11⟩ := evc H42.out.v4; clear hb2')
    | (go_at_call 10; (with_reducible refine (HGS.out _ H42.out.bel).mono ?_); rintro e w3 ⟨rfl, hb3'⟩; have H43 := Lib.hid (H42.out.on hb3'); have HH3 := Lib.hid (HH2.out.below hb3'); obtain ⟨j0, j1, j2, j3, j4, j5, j6, j7, j8, j9, j10, j11⟩ := evc H43.out.v4; clear hb3')
    | (go_at_call 17; (with_reducible refine (HD.out _ _ HH3.out HST.out H43.out.bel).mono ?_); rintro e w4 ⟨y1, rfl, hH, hst, hF⟩; have HH4 := Lib.hid hH; have HS4 := Lib.hid hst; have HC4 : Hid (Box w4 (w.heap.size + 3) 37 cm0.arr) := Lib.hid (hF.box H43.out.c7 (by omega) (by omega)); have HB4 : Hid (Below w.heap.size w w4) := Lib.hid (H43.out.bel.trans (hF.below (by omega) (by omega))); clear hH hst hF))
  generalize w4 = W5 at *
  have HSS : Hid ((fun u => Box u (w.heap.size + 2) 27 y1.arr ∧ Box u (w.heap.size + 3) 37 cm0.arr) (W5.drew)) := Lib.hid ⟨HH4.out.box.below (Below.drew (Below.refl _ _)) HH4.out.box.lt, HC4.out.below (Below.drew (Below.refl _ _)) HC4.out.lt⟩
  have z0 : ∀ u, (fun u => Box u (w.heap.size + 2) 27 y1.arr ∧ Box u (w.heap.size + 3) 37 cm0.arr) u → u.cell? ⟨w.heap.size + 1 + 1, 0, none⟩ = some (.slice y1.AD y1.nD y1.cD) := fun u h => h.1.cell 0
  have z1 : ∀ u, (fun u => Box u (w.heap.size + 2) 27 y1.arr ∧ Box u (w.heap.size + 3) 37 cm0.arr) u → u.cell? ⟨w.heap.size + 1 + 1, 1, none⟩ = some (.slice y1.AS y1.nS y1.cS) := fun u h => h.1.cell 1
  have z2 : ∀ u, (fun u => Box u (w.heap.size + 2) 27 y1.arr ∧ Box u (w.heap.size + 3) 37 cm0.arr) u → u.cell? ⟨w.heap.size + 1 + 1, 2, none⟩ = some (.int .i64 y1.nx) := fun u h => h.1.cell 2
  have yc0 : ∀ u, (fun u => Box u (w.heap.size + 2) 27 y1.arr ∧ Box u (w.heap.size + 3) 37 cm0.arr) u → u.cell? ⟨w.heap.size + 1 + 1 + 1, 0, none⟩ = some (.int .i64 cm0.sg) := fun u h => h.2.cell 0
  have yc1 : ∀ u, (fun u => Box u (w.heap.size + 2) 27 y1.arr ∧ Box u (w.heap.size + 3) 37 cm0.arr) u → u.cell? ⟨w.heap.size + 1 + 1 + 1, 1, none⟩ = some (.int .i64 cm0.sp) := fun u h => h.2.cell 1
  have yc2 : ∀ u, (fun u => Box u (w.heap.size + 2) 27 y1.arr ∧ Box u (w.heap.size + 3) 37 cm0.arr) u → u.cell? ⟨w.heap.size + 1 + 1 + 1, 2, none⟩ = some (.bool cm0.un) := fun u h => h.2.cell 2
  have yc3 : ∀ u, (fun u => Box u (w.heap.size + 2) 27 y1.arr ∧ Box u (w.heap.size + 3) 37 cm0.arr) u → u.cell? ⟨w.heap.size + 1 + 1 + 1, 3, none⟩ = some (.int .i64 cm0.tr) := fun u h => h.2.cell 3
  have yc4 : ∀ u, (fun u => Box u (w.heap.size + 2) 27 y1.arr ∧ Box u (w.heap.size + 3) 37 cm0.arr) u → u.cell? ⟨w.heap.size + 1 + 1 + 1, 4, none⟩ = some (.string cm0.pt) := fun u h => h.2.cell 4
  have yc5 : ∀ u, (fun u => Box u (w.heap.size + 2) 27 y1.arr ∧ Box u (w.heap.size + 3) 37 cm0.arr) u → u.cell? ⟨w.heap.size + 1 + 1 + 1, 5, none⟩ = some (.string cm0.key) := fun u h => h.2.cell 5
  refine wp_region_held_drew (S := fun u => Box u (w.heap.size + 2) 27 y1.arr ∧ Box u (w.heap.size + 3) 37 cm0.arr) (by kernel_rfl) (HSS.out) (fun hHeld => ?_)
  refine wpAnyH_take (i := 0) (oi := ⟨some 45, _, _, _, _, _⟩) (v := ?_) rfl (by kernel_rfl) (by kernel_rfl) (by kernel_rfl) (fun _ _ _ h => h) (Or.inl ⟨by rfl, ?_⟩) (by assumption) ?_
  rotate_left
  · (intro u hu; (try dsimp only at hu); go_simp; (try with_reducible rfl))
  (try simp only [Act.put, List.setIfInBounds_toArray, List.set_cons_zero, List.set_cons_succ])
  refine wpAnyH_take (i := 1) (oi := ⟨some 46, _, _, _, _, _⟩) (v := ?_) rfl (by kernel_rfl) (by kernel_rfl) (by kernel_rfl) (fun _ _ _ h => h) (Or.inl ⟨by rfl, ?_⟩) (by assumption) ?_
  rotate_left
  · (intro u hu; (try dsimp only at hu); go_simp; (try with_reducible rfl))
  (try simp only [Act.put, List.setIfInBounds_toArray, List.set_cons_zero, List.set_cons_succ])
  refine wpAnyH_take (i := 2) (oi := ⟨some 47, _, _, _, _, _⟩) (v := ?_) rfl (by kernel_rfl) (by kernel_rfl) (by kernel_rfl) (fun _ _ _ h => h) (Or.inl ⟨by rfl, ?_⟩) (by assumption) ?_
  rotate_left
  · (intro u hu; (try dsimp only at hu); go_simp; (try with_reducible rfl))
  (try simp only [Act.put, List.setIfInBounds_toArray, List.set_cons_zero, List.set_cons_succ])
  refine wpAnyH_ready (rs := [3]) (by decide +kernel) (by simp) ?_
  refine AllReadyH.cons (o := ⟨none, _, _, _, _, _⟩) rfl (fun K hK => ?_) AllReadyH.nil
  rw [if_pos (by rfl)]
  refine Sa.oper_store_row 27 _ _ rfl (w.heap.size + 2) 27 y1.arr y1.arr rfl rfl HSS.out.1 (sizeT _) rfl (oneT _) ?_
  have HS6 : Hid ((fun u => Box u (w.heap.size + 2) 27 y1.arr ∧ Box u (w.heap.size + 3) 37 cm0.arr) (W5.drew.setRow (w.heap.size + 2) y1.arr)) := Lib.hid ⟨Sa.box_row HSS.out.1 _, Sa.box_far HSS.out.2 (by omega) _⟩
  refine hK.out _ _ ?_ (fun hHeld => ?_)
  · exact HS6.out
  clear hK K
  (try simp only [Act.put])
  refine wpAnyH_ready (rs := [4]) (by decide +kernel) (by simp) ?_
  refine AllReadyH.cons (o := ⟨none, _, _, _, _, _⟩) rfl (fun K hK => ?_) AllReadyH.nil
  rw [if_pos (by rfl)]
  refine Sa.oper_store_row 37 _ _ rfl (w.heap.size + 3) 37 cm0.arr cm0.arr rfl rfl HS6.out.2 (Sa.sizeC _) rfl (Sa.oneC _) ?_
  have HS7 : Hid ((fun u => Box u (w.heap.size + 2) 27 y1.arr ∧ Box u (w.heap.size + 3) 37 cm0.arr) ((W5.drew.setRow (w.heap.size + 2) y1.arr).setRow (w.heap.size + 3) cm0.arr)) := Lib.hid ⟨Sa.box_far HS6.out.1 (by omega) _, Sa.box_row HS6.out.2 _⟩
  refine hK.out _ _ ?_ (fun hHeld => ?_)
  · exact HS7.out
  clear hK K
  (try simp only [Act.put])
  refine wpAnyH_take (i := 5) (oi := ⟨some 8, _, _, _, _, _⟩) (v := ?_) rfl (by kernel_rfl) (by kernel_rfl) (by kernel_rfl) (fun _ _ _ h => h) (Or.inl ⟨by rfl, ?_⟩) (by assumption) ?_
  rotate_left
  · (intro u hu; (try dsimp only at hu); go_simp; (try with_reducible rfl))
  (try simp only [Act.put, List.setIfInBounds_toArray, List.set_cons_zero, List.set_cons_succ])
  refine wpAnyH_done (by kernel_rfl) ?_ _
  go_wp2
  refine bodyPost_ret (res_st_cm_tmp rfl _ _ (w.heap.size + 2) (w.heap.size + 3) y1 cm0 rfl rfl HS7.out.1 HS7.out.2) rfl ?_
  have HE := do_end (w := w) (HB4.out.drew) (HH4.out.below (Below.drew (Below.refl _ _))) HSS.out.2 rfl
  refine ⟨y1, ?_, HE.1, ?_, HE.2⟩
  · rw [HF.out]; rfl
  · rw [HF.out]; exact HS4.out
omit h0 in
set_option maxHeartbeats 4000000 in
set_option maxRecDepth 100000 in
theorem do_start (hg : goodE v = true) (hk : v.k = 1) : Calls Tryz.prog 7 #[.agg #[.slice x.AD x.nD x.cD, .slice x.AS x.nS x.cS, .int .i64 x.nx], .agg #[.int .i64 v.k, .int .i64 v.now, .int .i64 v.sg, .string v.nm, .int .i64 v.r.sg, .int .i64 v.r.sp, .bool v.r.un, .int .i64 v.r.tr, .bool v.r.good, .string v.dn, .int .i64 v.dl, .slice A n c], .int .i64 lim] w (DoIs w x v lim) := by
  obtain ⟨hF0, hZ0, hX6⟩ := four_new w x v A n c
  have HX6 := Lib.hid hX6
  have HZ := Lib.hid hZ0
  have H4 := Lib.hid hF0
  have hfew : x.nD ≤ 64 := by have h1 := hx.lD; have h2 := hi.ok.ds.few; have h3 : x.st.ds.length = x.dx.length := List.length_map _; omega
  have HOW := Lib.hid (own_any16 x ((((w.alloc (.cells #[.slice x.AD x.nD x.cD, .slice x.AS x.nS x.cS, .int .i64 x.nx] 27)).alloc (.cells #[.int .i64 v.k, .int .i64 v.now, .int .i64 v.sg, .string v.nm, .int .i64 v.r.sg, .int .i64 v.r.sp, .bool v.r.un, .int .i64 v.r.tr, .bool v.r.good, .string v.dn, .int .i64 v.dl, .slice A n c] 35)).alloc (.cells #[.slice none 0 0, .slice none 0 0, .int .i64 0] 27)).alloc (.cells #[.int .i64 0, .int .i64 0, .bool false, .int .i64 0, .string ⟨#[]⟩, .string ⟨#[]⟩] 37)) (hx.on hF0.bel) (by omega) hb2)
  have HGV := Lib.hid (fun W (hW : Below w.heap.size w W) => Co.good_ev v A n c W (hv.on hW))
  have HHX := Lib.hid hx
  have HHV := Lib.hid hv
  have HGS := Lib.hid (fun W (hW : Below w.heap.size w W) => good16_any x W (hx.on hW) (tab_below ht hW) (by omega) hb2)
  rw [stB_ok hi.ok] at HGS
  rw [hg] at HGV
  have hny : ∀ {W : World} {y : SV}, Here W (w.heap.size + 2) (w.heap.size + 4) y → y.st = x.st → y.nD ≤ 1000000 ∧ y.nS ≤ 1000000000 := fun {W y} hH hy => by
    have h1 : y.st.ds.length = y.dx.length := List.length_map _
    have h2 : x.st.ds.length = x.dx.length := List.length_map _
    have h3 : y.gs = x.gs := congrArg Ms.gs hy
    have h4 := hH.own.lD
    have h5 := hH.own.lS
    have h6 := hx.lS
    have h7 := hi.ok.ds.few
    rw [hy] at h1
    rw [h3] at h5
    exact ⟨by omega, by omega⟩
  have HF : Hid (doS x.st v lim = ((startS x.st v lim).1, cm0, (startS x.st v lim).2)) := Lib.hid (by unfold doS; rw [if_neg (by rw [hg]; simp), if_neg (show ¬ v.k = 0 by omega), if_pos hk])
  have HD := Lib.hid (fun W y (hH : Here W (w.heap.size + 2) (w.heap.size + 4) y) (hy : y.st = x.st) (hW : Below w.heap.size w W) => by
    have hr := start_any y (w.heap.size + 2) (w.heap.size + 4) v A n c lim W hH (hny hH hy).1 (hny hH hy).2 (by have h1 := hi.ok.nx; rw [← hy] at h1; exact h1)
    unfold StartIs at hr
    rw [hy] at hr
    exact hr)
  have e0 : (v.k == 0) = false := by simp; omega
  have e1 : (v.k == 1) = true := by simp; omega
  clear hk hg hny
  clear hF0 hZ0 hX6 hx hv
  go_enter Tryz.func7, Tryz.ntmps7
  go_upto_region 1 with fail
  generalize ((((w.alloc (.cells #[.slice x.AD x.nD x.cD, .slice x.AS x.nS x.cS, .int .i64 x.nx] 27)).alloc (.cells #[.int .i64 v.k, .int .i64 v.now, .int .i64 v.sg, .string v.nm, .int .i64 v.r.sg, .int .i64 v.r.sp, .bool v.r.un, .int .i64 v.r.tr, .bool v.r.good, .string v.dn, .int .i64 v.dl, .slice A n c] 35)).alloc (.cells #[.slice none 0 0, .slice none 0 0, .int .i64 0] 27)).alloc (.cells #[.int .i64 0, .int .i64 0, .bool false, .int .i64 0, .string ⟨#[]⟩, .string ⟨#[]⟩] 37)) = W0 at *
  obtain ⟨k0, k1, k2⟩ := four_cells H4.out
  go_upto_region 2 with (first
    | (go_at_call 15; (with_reducible refine HOW.out.mono ?_); rintro e w1 ⟨y0, rfl, ho, hst, hb1⟩; have HST := Lib.hid hst; have HC1 := Lib.hid (here_copy H4.out HZ.out hb1 HX6.out ho); have HB6 := Lib.hid (HX6.out.below hb1 HX6.out.lt); clear hst ho hb1)
    | (refine wpList_store_row rfl 27 _ _ rfl (w.heap.size + 2) 27 #[.slice none 0 0, .slice none 0 0, .int .i64 0] y0.arr rfl rfl HB6.out (sizeT y0) rfl (oneT y0) ?_))
  clear k0 k1 k2 HB6 HOW HX6 HZ H4
  generalize w1.setRow (w.heap.size + 2) y0.arr = W1 at *
  have H4 := Lib.hid HC1.out.1
  have HH1 := Lib.hid HC1.out.2
  clear HC1
  obtain ⟨a0, a1, a2, a3, a4, a5, a6, a7, a8, a9, a10, a11⟩ := evc H4.out.v4
  go_upto_region 14 with (first
    | (go_at_call 16; (with_reducible refine (HGV.out _ H4.out.bel).mono ?_); rintro e w2 ⟨rfl, hb2'⟩; have H42 := Lib.hid (H4.out.on hb2'); have HH2 := Lib.hid (HH1.out.below hb2'); obtain ⟨k0, k1, k2⟩ := four_cells H42.out; obtain ⟨i0, i1, i2, i3, i4, i5, i6, i7, i8, i9, i10, i11⟩ := evc H42.out.v4; clear hb2')
    | (go_at_call 10; (with_reducible refine (HGS.out _ H42.out.bel).mono ?_); rintro e w3 ⟨rfl, hb3'⟩; have H43 := Lib.hid (H42.out.on hb3'); have HH3 := Lib.hid (HH2.out.below hb3'); obtain ⟨j0, j1, j2, j3, j4, j5, j6, j7, j8, j9, j10, j11⟩ := evc H43.out.v4; clear hb3')
    | (go_at_call 18; (with_reducible refine (HD.out _ _ HH3.out HST.out H43.out.bel).mono ?_); rintro e w4 ⟨y1, rfl, hH, hst, hF⟩; have HH4 := Lib.hid hH; have HS4 := Lib.hid hst; have HC4 : Hid (Box w4 (w.heap.size + 3) 37 cm0.arr) := Lib.hid (hF.box H43.out.c7 (by omega) (by omega)); have HB4 : Hid (Below w.heap.size w w4) := Lib.hid (H43.out.bel.trans (hF.below (by omega) (by omega))); clear hH hst hF))
  generalize w4 = W5 at *
  have HSS : Hid ((fun u => Box u (w.heap.size + 2) 27 y1.arr ∧ Box u (w.heap.size + 3) 37 cm0.arr) (W5.drew)) := Lib.hid ⟨HH4.out.box.below (Below.drew (Below.refl _ _)) HH4.out.box.lt, HC4.out.below (Below.drew (Below.refl _ _)) HC4.out.lt⟩
  have z0 : ∀ u, (fun u => Box u (w.heap.size + 2) 27 y1.arr ∧ Box u (w.heap.size + 3) 37 cm0.arr) u → u.cell? ⟨w.heap.size + 1 + 1, 0, none⟩ = some (.slice y1.AD y1.nD y1.cD) := fun u h => h.1.cell 0
  have z1 : ∀ u, (fun u => Box u (w.heap.size + 2) 27 y1.arr ∧ Box u (w.heap.size + 3) 37 cm0.arr) u → u.cell? ⟨w.heap.size + 1 + 1, 1, none⟩ = some (.slice y1.AS y1.nS y1.cS) := fun u h => h.1.cell 1
  have z2 : ∀ u, (fun u => Box u (w.heap.size + 2) 27 y1.arr ∧ Box u (w.heap.size + 3) 37 cm0.arr) u → u.cell? ⟨w.heap.size + 1 + 1, 2, none⟩ = some (.int .i64 y1.nx) := fun u h => h.1.cell 2
  have yc0 : ∀ u, (fun u => Box u (w.heap.size + 2) 27 y1.arr ∧ Box u (w.heap.size + 3) 37 cm0.arr) u → u.cell? ⟨w.heap.size + 1 + 1 + 1, 0, none⟩ = some (.int .i64 cm0.sg) := fun u h => h.2.cell 0
  have yc1 : ∀ u, (fun u => Box u (w.heap.size + 2) 27 y1.arr ∧ Box u (w.heap.size + 3) 37 cm0.arr) u → u.cell? ⟨w.heap.size + 1 + 1 + 1, 1, none⟩ = some (.int .i64 cm0.sp) := fun u h => h.2.cell 1
  have yc2 : ∀ u, (fun u => Box u (w.heap.size + 2) 27 y1.arr ∧ Box u (w.heap.size + 3) 37 cm0.arr) u → u.cell? ⟨w.heap.size + 1 + 1 + 1, 2, none⟩ = some (.bool cm0.un) := fun u h => h.2.cell 2
  have yc3 : ∀ u, (fun u => Box u (w.heap.size + 2) 27 y1.arr ∧ Box u (w.heap.size + 3) 37 cm0.arr) u → u.cell? ⟨w.heap.size + 1 + 1 + 1, 3, none⟩ = some (.int .i64 cm0.tr) := fun u h => h.2.cell 3
  have yc4 : ∀ u, (fun u => Box u (w.heap.size + 2) 27 y1.arr ∧ Box u (w.heap.size + 3) 37 cm0.arr) u → u.cell? ⟨w.heap.size + 1 + 1 + 1, 4, none⟩ = some (.string cm0.pt) := fun u h => h.2.cell 4
  have yc5 : ∀ u, (fun u => Box u (w.heap.size + 2) 27 y1.arr ∧ Box u (w.heap.size + 3) 37 cm0.arr) u → u.cell? ⟨w.heap.size + 1 + 1 + 1, 5, none⟩ = some (.string cm0.key) := fun u h => h.2.cell 5
  refine wp_region_held_drew (S := fun u => Box u (w.heap.size + 2) 27 y1.arr ∧ Box u (w.heap.size + 3) 37 cm0.arr) (by kernel_rfl) (HSS.out) (fun hHeld => ?_)
  refine wpAnyH_take (i := 0) (oi := ⟨some 45, _, _, _, _, _⟩) (v := ?_) rfl (by kernel_rfl) (by kernel_rfl) (by kernel_rfl) (fun _ _ _ h => h) (Or.inl ⟨by rfl, ?_⟩) (by assumption) ?_
  rotate_left
  · (intro u hu; (try dsimp only at hu); go_simp; (try with_reducible rfl))
  (try simp only [Act.put, List.setIfInBounds_toArray, List.set_cons_zero, List.set_cons_succ])
  refine wpAnyH_take (i := 1) (oi := ⟨some 46, _, _, _, _, _⟩) (v := ?_) rfl (by kernel_rfl) (by kernel_rfl) (by kernel_rfl) (fun _ _ _ h => h) (Or.inl ⟨by rfl, ?_⟩) (by assumption) ?_
  rotate_left
  · (intro u hu; (try dsimp only at hu); go_simp; (try with_reducible rfl))
  (try simp only [Act.put, List.setIfInBounds_toArray, List.set_cons_zero, List.set_cons_succ])
  refine wpAnyH_take (i := 2) (oi := ⟨some 47, _, _, _, _, _⟩) (v := ?_) rfl (by kernel_rfl) (by kernel_rfl) (by kernel_rfl) (fun _ _ _ h => h) (Or.inl ⟨by rfl, ?_⟩) (by assumption) ?_
  rotate_left
  · (intro u hu; (try dsimp only at hu); go_simp; (try with_reducible rfl))
  (try simp only [Act.put, List.setIfInBounds_toArray, List.set_cons_zero, List.set_cons_succ])
  refine wpAnyH_ready (rs := [3]) (by decide +kernel) (by simp) ?_
  refine AllReadyH.cons (o := ⟨none, _, _, _, _, _⟩) rfl (fun K hK => ?_) AllReadyH.nil
  rw [if_pos (by rfl)]
  refine Sa.oper_store_row 27 _ _ rfl (w.heap.size + 2) 27 y1.arr y1.arr rfl rfl HSS.out.1 (sizeT _) rfl (oneT _) ?_
  have HS6 : Hid ((fun u => Box u (w.heap.size + 2) 27 y1.arr ∧ Box u (w.heap.size + 3) 37 cm0.arr) (W5.drew.setRow (w.heap.size + 2) y1.arr)) := Lib.hid ⟨Sa.box_row HSS.out.1 _, Sa.box_far HSS.out.2 (by omega) _⟩
  refine hK.out _ _ ?_ (fun hHeld => ?_)
  · exact HS6.out
  clear hK K
  (try simp only [Act.put])
  refine wpAnyH_ready (rs := [4]) (by decide +kernel) (by simp) ?_
  refine AllReadyH.cons (o := ⟨none, _, _, _, _, _⟩) rfl (fun K hK => ?_) AllReadyH.nil
  rw [if_pos (by rfl)]
  refine Sa.oper_store_row 37 _ _ rfl (w.heap.size + 3) 37 cm0.arr cm0.arr rfl rfl HS6.out.2 (Sa.sizeC _) rfl (Sa.oneC _) ?_
  have HS7 : Hid ((fun u => Box u (w.heap.size + 2) 27 y1.arr ∧ Box u (w.heap.size + 3) 37 cm0.arr) ((W5.drew.setRow (w.heap.size + 2) y1.arr).setRow (w.heap.size + 3) cm0.arr)) := Lib.hid ⟨Sa.box_far HS6.out.1 (by omega) _, Sa.box_row HS6.out.2 _⟩
  refine hK.out _ _ ?_ (fun hHeld => ?_)
  · exact HS7.out
  clear hK K
  (try simp only [Act.put])
  refine wpAnyH_take (i := 5) (oi := ⟨some 8, _, _, _, _, _⟩) (v := ?_) rfl (by kernel_rfl) (by kernel_rfl) (by kernel_rfl) (fun _ _ _ h => h) (Or.inl ⟨by rfl, ?_⟩) (by assumption) ?_
  rotate_left
  · (intro u hu; (try dsimp only at hu); go_simp; (try with_reducible rfl))
  (try simp only [Act.put, List.setIfInBounds_toArray, List.set_cons_zero, List.set_cons_succ])
  refine wpAnyH_done (by kernel_rfl) ?_ _
  go_wp2
  refine bodyPost_ret (res_st_cm_tmp rfl _ _ (w.heap.size + 2) (w.heap.size + 3) y1 cm0 rfl rfl HS7.out.1 HS7.out.2) rfl ?_
  have HE := do_end (w := w) (HB4.out.drew) (HH4.out.below (Below.drew (Below.refl _ _))) HSS.out.2 rfl
  refine ⟨y1, ?_, HE.1, ?_, HE.2⟩
  · rw [HF.out]; rfl
  · rw [HF.out]; exact HS4.out
omit h0 in
set_option maxHeartbeats 4000000 in
set_option maxRecDepth 100000 in
theorem do_forget (hg : goodE v = true) (hk : v.k = 10) : Calls Tryz.prog 7 #[.agg #[.slice x.AD x.nD x.cD, .slice x.AS x.nS x.cS, .int .i64 x.nx], .agg #[.int .i64 v.k, .int .i64 v.now, .int .i64 v.sg, .string v.nm, .int .i64 v.r.sg, .int .i64 v.r.sp, .bool v.r.un, .int .i64 v.r.tr, .bool v.r.good, .string v.dn, .int .i64 v.dl, .slice A n c], .int .i64 lim] w (DoIs w x v lim) := by
  obtain ⟨hF0, hZ0, hX6⟩ := four_new w x v A n c
  have HX6 := Lib.hid hX6
  have HZ := Lib.hid hZ0
  have H4 := Lib.hid hF0
  have hfew : x.nD ≤ 64 := by have h1 := hx.lD; have h2 := hi.ok.ds.few; have h3 : x.st.ds.length = x.dx.length := List.length_map _; omega
  have HOW := Lib.hid (own_any16 x ((((w.alloc (.cells #[.slice x.AD x.nD x.cD, .slice x.AS x.nS x.cS, .int .i64 x.nx] 27)).alloc (.cells #[.int .i64 v.k, .int .i64 v.now, .int .i64 v.sg, .string v.nm, .int .i64 v.r.sg, .int .i64 v.r.sp, .bool v.r.un, .int .i64 v.r.tr, .bool v.r.good, .string v.dn, .int .i64 v.dl, .slice A n c] 35)).alloc (.cells #[.slice none 0 0, .slice none 0 0, .int .i64 0] 27)).alloc (.cells #[.int .i64 0, .int .i64 0, .bool false, .int .i64 0, .string ⟨#[]⟩, .string ⟨#[]⟩] 37)) (hx.on hF0.bel) (by omega) hb2)
  have HGV := Lib.hid (fun W (hW : Below w.heap.size w W) => Co.good_ev v A n c W (hv.on hW))
  have HHX := Lib.hid hx
  have HHV := Lib.hid hv
  have HGS := Lib.hid (fun W (hW : Below w.heap.size w W) => good16_any x W (hx.on hW) (tab_below ht hW) (by omega) hb2)
  rw [stB_ok hi.ok] at HGS
  rw [hg] at HGV
  have hny : ∀ {W : World} {y : SV}, Here W (w.heap.size + 2) (w.heap.size + 4) y → y.st = x.st → y.nD ≤ 1000000 ∧ y.nS ≤ 1000000000 := fun {W y} hH hy => by
    have h1 : y.st.ds.length = y.dx.length := List.length_map _
    have h2 : x.st.ds.length = x.dx.length := List.length_map _
    have h3 : y.gs = x.gs := congrArg Ms.gs hy
    have h4 := hH.own.lD
    have h5 := hH.own.lS
    have h6 := hx.lS
    have h7 := hi.ok.ds.few
    rw [hy] at h1
    rw [h3] at h5
    exact ⟨by omega, by omega⟩
  have HF : Hid (doS x.st v lim = ((forgetS x.st v.sg).1, cm0, (forgetS x.st v.sg).2)) := Lib.hid (by unfold doS; rw [if_neg (by rw [hg]; simp), if_neg (show ¬ v.k = 0 by omega), if_neg (show ¬ v.k = 1 by omega), if_pos hk])
  have HD := Lib.hid (fun W y (hH : Here W (w.heap.size + 2) (w.heap.size + 4) y) (hy : y.st = x.st) (hW : Below w.heap.size w W) => by
    have hr := forget_any y (w.heap.size + 2) (w.heap.size + 4) v.sg W hH (hny hH hy).2
    unfold ForIs at hr
    rw [hy] at hr
    exact hr)
  have e0 : (v.k == 0) = false := by simp; omega
  have e1 : (v.k == 1) = false := by simp; omega
  have e10 : (v.k == 10) = true := by simp; omega
  clear hk hg hny
  clear hF0 hZ0 hX6 hx hv
  go_enter Tryz.func7, Tryz.ntmps7
  go_upto_region 1 with fail
  generalize ((((w.alloc (.cells #[.slice x.AD x.nD x.cD, .slice x.AS x.nS x.cS, .int .i64 x.nx] 27)).alloc (.cells #[.int .i64 v.k, .int .i64 v.now, .int .i64 v.sg, .string v.nm, .int .i64 v.r.sg, .int .i64 v.r.sp, .bool v.r.un, .int .i64 v.r.tr, .bool v.r.good, .string v.dn, .int .i64 v.dl, .slice A n c] 35)).alloc (.cells #[.slice none 0 0, .slice none 0 0, .int .i64 0] 27)).alloc (.cells #[.int .i64 0, .int .i64 0, .bool false, .int .i64 0, .string ⟨#[]⟩, .string ⟨#[]⟩] 37)) = W0 at *
  obtain ⟨k0, k1, k2⟩ := four_cells H4.out
  go_upto_region 2 with (first
    | (go_at_call 15; (with_reducible refine HOW.out.mono ?_); rintro e w1 ⟨y0, rfl, ho, hst, hb1⟩; have HST := Lib.hid hst; have HC1 := Lib.hid (here_copy H4.out HZ.out hb1 HX6.out ho); have HB6 := Lib.hid (HX6.out.below hb1 HX6.out.lt); clear hst ho hb1)
    | (refine wpList_store_row rfl 27 _ _ rfl (w.heap.size + 2) 27 #[.slice none 0 0, .slice none 0 0, .int .i64 0] y0.arr rfl rfl HB6.out (sizeT y0) rfl (oneT y0) ?_))
  clear k0 k1 k2 HB6 HOW HX6 HZ H4
  generalize w1.setRow (w.heap.size + 2) y0.arr = W1 at *
  have H4 := Lib.hid HC1.out.1
  have HH1 := Lib.hid HC1.out.2
  clear HC1
  obtain ⟨a0, a1, a2, a3, a4, a5, a6, a7, a8, a9, a10, a11⟩ := evc H4.out.v4
  go_upto_region 14 with (first
    | (go_at_call 16; (with_reducible refine (HGV.out _ H4.out.bel).mono ?_); rintro e w2 ⟨rfl, hb2'⟩; have H42 := Lib.hid (H4.out.on hb2'); have HH2 := Lib.hid (HH1.out.below hb2'); obtain ⟨k0, k1, k2⟩ := four_cells H42.out; obtain ⟨i0, i1, i2, i3, i4, i5, i6, i7, i8, i9, i10, i11⟩ := evc H42.out.v4; clear hb2')
    | (go_at_call 10; (with_reducible refine (HGS.out _ H42.out.bel).mono ?_); rintro e w3 ⟨rfl, hb3'⟩; have H43 := Lib.hid (H42.out.on hb3'); have HH3 := Lib.hid (HH2.out.below hb3'); obtain ⟨j0, j1, j2, j3, j4, j5, j6, j7, j8, j9, j10, j11⟩ := evc H43.out.v4; clear hb3')
    | (go_at_call 19; (with_reducible refine (HD.out _ _ HH3.out HST.out H43.out.bel).mono ?_); rintro e w4 ⟨y1, rfl, hH, hst, hF⟩; have HH4 := Lib.hid hH; have HS4 := Lib.hid hst; have HC4 : Hid (Box w4 (w.heap.size + 3) 37 cm0.arr) := Lib.hid (hF.box H43.out.c7 (by omega) (by omega)); have HB4 : Hid (Below w.heap.size w w4) := Lib.hid (H43.out.bel.trans (hF.below (by omega) (by omega))); clear hH hst hF))
  generalize w4 = W5 at *
  have HSS : Hid ((fun u => Box u (w.heap.size + 2) 27 y1.arr ∧ Box u (w.heap.size + 3) 37 cm0.arr) (W5.drew)) := Lib.hid ⟨HH4.out.box.below (Below.drew (Below.refl _ _)) HH4.out.box.lt, HC4.out.below (Below.drew (Below.refl _ _)) HC4.out.lt⟩
  have z0 : ∀ u, (fun u => Box u (w.heap.size + 2) 27 y1.arr ∧ Box u (w.heap.size + 3) 37 cm0.arr) u → u.cell? ⟨w.heap.size + 1 + 1, 0, none⟩ = some (.slice y1.AD y1.nD y1.cD) := fun u h => h.1.cell 0
  have z1 : ∀ u, (fun u => Box u (w.heap.size + 2) 27 y1.arr ∧ Box u (w.heap.size + 3) 37 cm0.arr) u → u.cell? ⟨w.heap.size + 1 + 1, 1, none⟩ = some (.slice y1.AS y1.nS y1.cS) := fun u h => h.1.cell 1
  have z2 : ∀ u, (fun u => Box u (w.heap.size + 2) 27 y1.arr ∧ Box u (w.heap.size + 3) 37 cm0.arr) u → u.cell? ⟨w.heap.size + 1 + 1, 2, none⟩ = some (.int .i64 y1.nx) := fun u h => h.1.cell 2
  have yc0 : ∀ u, (fun u => Box u (w.heap.size + 2) 27 y1.arr ∧ Box u (w.heap.size + 3) 37 cm0.arr) u → u.cell? ⟨w.heap.size + 1 + 1 + 1, 0, none⟩ = some (.int .i64 cm0.sg) := fun u h => h.2.cell 0
  have yc1 : ∀ u, (fun u => Box u (w.heap.size + 2) 27 y1.arr ∧ Box u (w.heap.size + 3) 37 cm0.arr) u → u.cell? ⟨w.heap.size + 1 + 1 + 1, 1, none⟩ = some (.int .i64 cm0.sp) := fun u h => h.2.cell 1
  have yc2 : ∀ u, (fun u => Box u (w.heap.size + 2) 27 y1.arr ∧ Box u (w.heap.size + 3) 37 cm0.arr) u → u.cell? ⟨w.heap.size + 1 + 1 + 1, 2, none⟩ = some (.bool cm0.un) := fun u h => h.2.cell 2
  have yc3 : ∀ u, (fun u => Box u (w.heap.size + 2) 27 y1.arr ∧ Box u (w.heap.size + 3) 37 cm0.arr) u → u.cell? ⟨w.heap.size + 1 + 1 + 1, 3, none⟩ = some (.int .i64 cm0.tr) := fun u h => h.2.cell 3
  have yc4 : ∀ u, (fun u => Box u (w.heap.size + 2) 27 y1.arr ∧ Box u (w.heap.size + 3) 37 cm0.arr) u → u.cell? ⟨w.heap.size + 1 + 1 + 1, 4, none⟩ = some (.string cm0.pt) := fun u h => h.2.cell 4
  have yc5 : ∀ u, (fun u => Box u (w.heap.size + 2) 27 y1.arr ∧ Box u (w.heap.size + 3) 37 cm0.arr) u → u.cell? ⟨w.heap.size + 1 + 1 + 1, 5, none⟩ = some (.string cm0.key) := fun u h => h.2.cell 5
  refine wp_region_held_drew (S := fun u => Box u (w.heap.size + 2) 27 y1.arr ∧ Box u (w.heap.size + 3) 37 cm0.arr) (by kernel_rfl) (HSS.out) (fun hHeld => ?_)
  refine wpAnyH_take (i := 0) (oi := ⟨some 45, _, _, _, _, _⟩) (v := ?_) rfl (by kernel_rfl) (by kernel_rfl) (by kernel_rfl) (fun _ _ _ h => h) (Or.inl ⟨by rfl, ?_⟩) (by assumption) ?_
  rotate_left
  · (intro u hu; (try dsimp only at hu); go_simp; (try with_reducible rfl))
  (try simp only [Act.put, List.setIfInBounds_toArray, List.set_cons_zero, List.set_cons_succ])
  refine wpAnyH_take (i := 1) (oi := ⟨some 46, _, _, _, _, _⟩) (v := ?_) rfl (by kernel_rfl) (by kernel_rfl) (by kernel_rfl) (fun _ _ _ h => h) (Or.inl ⟨by rfl, ?_⟩) (by assumption) ?_
  rotate_left
  · (intro u hu; (try dsimp only at hu); go_simp; (try with_reducible rfl))
  (try simp only [Act.put, List.setIfInBounds_toArray, List.set_cons_zero, List.set_cons_succ])
  refine wpAnyH_take (i := 2) (oi := ⟨some 47, _, _, _, _, _⟩) (v := ?_) rfl (by kernel_rfl) (by kernel_rfl) (by kernel_rfl) (fun _ _ _ h => h) (Or.inl ⟨by rfl, ?_⟩) (by assumption) ?_
  rotate_left
  · (intro u hu; (try dsimp only at hu); go_simp; (try with_reducible rfl))
  (try simp only [Act.put, List.setIfInBounds_toArray, List.set_cons_zero, List.set_cons_succ])
  refine wpAnyH_ready (rs := [3]) (by decide +kernel) (by simp) ?_
  refine AllReadyH.cons (o := ⟨none, _, _, _, _, _⟩) rfl (fun K hK => ?_) AllReadyH.nil
  rw [if_pos (by rfl)]
  refine Sa.oper_store_row 27 _ _ rfl (w.heap.size + 2) 27 y1.arr y1.arr rfl rfl HSS.out.1 (sizeT _) rfl (oneT _) ?_
  have HS6 : Hid ((fun u => Box u (w.heap.size + 2) 27 y1.arr ∧ Box u (w.heap.size + 3) 37 cm0.arr) (W5.drew.setRow (w.heap.size + 2) y1.arr)) := Lib.hid ⟨Sa.box_row HSS.out.1 _, Sa.box_far HSS.out.2 (by omega) _⟩
  refine hK.out _ _ ?_ (fun hHeld => ?_)
  · exact HS6.out
  clear hK K
  (try simp only [Act.put])
  refine wpAnyH_ready (rs := [4]) (by decide +kernel) (by simp) ?_
  refine AllReadyH.cons (o := ⟨none, _, _, _, _, _⟩) rfl (fun K hK => ?_) AllReadyH.nil
  rw [if_pos (by rfl)]
  refine Sa.oper_store_row 37 _ _ rfl (w.heap.size + 3) 37 cm0.arr cm0.arr rfl rfl HS6.out.2 (Sa.sizeC _) rfl (Sa.oneC _) ?_
  have HS7 : Hid ((fun u => Box u (w.heap.size + 2) 27 y1.arr ∧ Box u (w.heap.size + 3) 37 cm0.arr) ((W5.drew.setRow (w.heap.size + 2) y1.arr).setRow (w.heap.size + 3) cm0.arr)) := Lib.hid ⟨Sa.box_far HS6.out.1 (by omega) _, Sa.box_row HS6.out.2 _⟩
  refine hK.out _ _ ?_ (fun hHeld => ?_)
  · exact HS7.out
  clear hK K
  (try simp only [Act.put])
  refine wpAnyH_take (i := 5) (oi := ⟨some 8, _, _, _, _, _⟩) (v := ?_) rfl (by kernel_rfl) (by kernel_rfl) (by kernel_rfl) (fun _ _ _ h => h) (Or.inl ⟨by rfl, ?_⟩) (by assumption) ?_
  rotate_left
  · (intro u hu; (try dsimp only at hu); go_simp; (try with_reducible rfl))
  (try simp only [Act.put, List.setIfInBounds_toArray, List.set_cons_zero, List.set_cons_succ])
  refine wpAnyH_done (by kernel_rfl) ?_ _
  go_wp2
  refine bodyPost_ret (res_st_cm_tmp rfl _ _ (w.heap.size + 2) (w.heap.size + 3) y1 cm0 rfl rfl HS7.out.1 HS7.out.2) rfl ?_
  have HE := do_end (w := w) (HB4.out.drew) (HH4.out.below (Below.drew (Below.refl _ _))) HSS.out.2 rfl
  refine ⟨y1, ?_, HE.1, ?_, HE.2⟩
  · rw [HF.out]; rfl
  · rw [HF.out]; exact HS4.out
omit h0 in
set_option maxHeartbeats 4000000 in
set_option maxRecDepth 100000 in
theorem do_act (hg : goodE v = true) (hk : 2 ≤ v.k ∧ v.k ≤ 9) : Calls Tryz.prog 7 #[.agg #[.slice x.AD x.nD x.cD, .slice x.AS x.nS x.cS, .int .i64 x.nx], .agg #[.int .i64 v.k, .int .i64 v.now, .int .i64 v.sg, .string v.nm, .int .i64 v.r.sg, .int .i64 v.r.sp, .bool v.r.un, .int .i64 v.r.tr, .bool v.r.good, .string v.dn, .int .i64 v.dl, .slice A n c], .int .i64 lim] w (DoIs w x v lim) := by
  obtain ⟨hF0, hZ0, hX6⟩ := four_new w x v A n c
  have HX6 := Lib.hid hX6
  have HZ := Lib.hid hZ0
  have H4 := Lib.hid hF0
  have hfew : x.nD ≤ 64 := by have h1 := hx.lD; have h2 := hi.ok.ds.few; have h3 : x.st.ds.length = x.dx.length := List.length_map _; omega
  have HOW := Lib.hid (own_any16 x ((((w.alloc (.cells #[.slice x.AD x.nD x.cD, .slice x.AS x.nS x.cS, .int .i64 x.nx] 27)).alloc (.cells #[.int .i64 v.k, .int .i64 v.now, .int .i64 v.sg, .string v.nm, .int .i64 v.r.sg, .int .i64 v.r.sp, .bool v.r.un, .int .i64 v.r.tr, .bool v.r.good, .string v.dn, .int .i64 v.dl, .slice A n c] 35)).alloc (.cells #[.slice none 0 0, .slice none 0 0, .int .i64 0] 27)).alloc (.cells #[.int .i64 0, .int .i64 0, .bool false, .int .i64 0, .string ⟨#[]⟩, .string ⟨#[]⟩] 37)) (hx.on hF0.bel) (by omega) hb2)
  have HGV := Lib.hid (fun W (hW : Below w.heap.size w W) => Co.good_ev v A n c W (hv.on hW))
  have HHX := Lib.hid hx
  have HHV := Lib.hid hv
  have HGS := Lib.hid (fun W (hW : Below w.heap.size w W) => good16_any x W (hx.on hW) (tab_below ht hW) (by omega) hb2)
  rw [stB_ok hi.ok] at HGS
  rw [hg] at HGV
  have hny : ∀ {W : World} {y : SV}, Here W (w.heap.size + 2) (w.heap.size + 4) y → y.st = x.st → y.nD ≤ 1000000 ∧ y.nS ≤ 1000000000 := fun {W y} hH hy => by
    have h1 : y.st.ds.length = y.dx.length := List.length_map _
    have h2 : x.st.ds.length = x.dx.length := List.length_map _
    have h3 : y.gs = x.gs := congrArg Ms.gs hy
    have h4 := hH.own.lD
    have h5 := hH.own.lS
    have h6 := hx.lS
    have h7 := hi.ok.ds.few
    rw [hy] at h1
    rw [h3] at h5
    exact ⟨by omega, by omega⟩
  have HF : Hid (doS x.st v lim = actS x.st v) := Lib.hid (by unfold doS; rw [if_neg (by rw [hg]; simp), if_neg (show ¬ v.k = 0 by omega), if_neg (show ¬ v.k = 1 by omega), if_neg (show ¬ v.k = 10 by omega)])
  have HD := Lib.hid (fun W y (hH : Here W (w.heap.size + 2) (w.heap.size + 4) y) (hy : y.st = x.st) (hW : Below w.heap.size w W) => by
    have hr := act_any y (w.heap.size + 2) (w.heap.size + 4) v A n c W hH (hny hH hy).1 (hny hH hy).2 (by rw [hy]; exact hi) (tab_below ht hW) hk
    unfold ActIs at hr
    rw [hy] at hr
    exact hr)
  have e0 : (v.k == 0) = false := by simp; omega
  have e1 : (v.k == 1) = false := by simp; omega
  have e10 : (v.k == 10) = false := by simp; omega
  clear hk hg hny
  clear hF0 hZ0 hX6 hx hv
  go_enter Tryz.func7, Tryz.ntmps7
  go_upto_region 1 with fail
  generalize ((((w.alloc (.cells #[.slice x.AD x.nD x.cD, .slice x.AS x.nS x.cS, .int .i64 x.nx] 27)).alloc (.cells #[.int .i64 v.k, .int .i64 v.now, .int .i64 v.sg, .string v.nm, .int .i64 v.r.sg, .int .i64 v.r.sp, .bool v.r.un, .int .i64 v.r.tr, .bool v.r.good, .string v.dn, .int .i64 v.dl, .slice A n c] 35)).alloc (.cells #[.slice none 0 0, .slice none 0 0, .int .i64 0] 27)).alloc (.cells #[.int .i64 0, .int .i64 0, .bool false, .int .i64 0, .string ⟨#[]⟩, .string ⟨#[]⟩] 37)) = W0 at *
  obtain ⟨k0, k1, k2⟩ := four_cells H4.out
  go_upto_region 2 with (first
    | (go_at_call 15; (with_reducible refine HOW.out.mono ?_); rintro e w1 ⟨y0, rfl, ho, hst, hb1⟩; have HST := Lib.hid hst; have HC1 := Lib.hid (here_copy H4.out HZ.out hb1 HX6.out ho); have HB6 := Lib.hid (HX6.out.below hb1 HX6.out.lt); clear hst ho hb1)
    | (refine wpList_store_row rfl 27 _ _ rfl (w.heap.size + 2) 27 #[.slice none 0 0, .slice none 0 0, .int .i64 0] y0.arr rfl rfl HB6.out (sizeT y0) rfl (oneT y0) ?_))
  clear k0 k1 k2 HB6 HOW HX6 HZ H4
  generalize w1.setRow (w.heap.size + 2) y0.arr = W1 at *
  have H4 := Lib.hid HC1.out.1
  have HH1 := Lib.hid HC1.out.2
  clear HC1
  obtain ⟨a0, a1, a2, a3, a4, a5, a6, a7, a8, a9, a10, a11⟩ := evc H4.out.v4
  go_upto_region 14 with (first
    | (go_at_call 16; (with_reducible refine (HGV.out _ H4.out.bel).mono ?_); rintro e w2 ⟨rfl, hb2'⟩; have H42 := Lib.hid (H4.out.on hb2'); have HH2 := Lib.hid (HH1.out.below hb2'); obtain ⟨k0, k1, k2⟩ := four_cells H42.out; obtain ⟨i0, i1, i2, i3, i4, i5, i6, i7, i8, i9, i10, i11⟩ := evc H42.out.v4; clear hb2')
    | (go_at_call 10; (with_reducible refine (HGS.out _ H42.out.bel).mono ?_); rintro e w3 ⟨rfl, hb3'⟩; have H43 := Lib.hid (H42.out.on hb3'); have HH3 := Lib.hid (HH2.out.below hb3'); obtain ⟨j0, j1, j2, j3, j4, j5, j6, j7, j8, j9, j10, j11⟩ := evc H43.out.v4; clear hb3')
    | (go_at_call 20; (with_reducible refine (HD.out _ _ HH3.out HST.out H43.out.bel).mono ?_); rintro e w4 ⟨y1, rfl, hH, hst, hF⟩; have HH4 := Lib.hid hH; have HS4 := Lib.hid hst; have HC4 : Hid (Box w4 (w.heap.size + 3) 37 cm0.arr) := Lib.hid (hF.box H43.out.c7 (by omega) (by omega)); have HB4 : Hid (Below w.heap.size w w4) := Lib.hid (H43.out.bel.trans (hF.below (by omega) (by omega))); clear hH hst hF)
    | (refine wpList_store_row rfl 37 _ _ rfl (w.heap.size + 3) 37 cm0.arr (actS x.st v).2.1.arr rfl rfl HC4.out (Sa.sizeC _) rfl (Sa.oneC _) ?_))
  have HH5 := Lib.hid (here_off HH4.out HC4.out (by decide) (by decide) (by decide) (by decide) (actS x.st v).2.1.arr)
  have HC5 := Lib.hid (Sa.box_row HC4.out (actS x.st v).2.1.arr)
  have HB5 := Lib.hid (Sa.below_row HB4.out (show w.heap.size ≤ (w.heap.size + 3) by omega) (actS x.st v).2.1.arr)
  generalize w4.setRow (w.heap.size + 3) (actS x.st v).2.1.arr = W5 at *
  have HSS : Hid ((fun u => Box u (w.heap.size + 2) 27 y1.arr ∧ Box u (w.heap.size + 3) 37 (actS x.st v).2.1.arr) (W5.drew)) := Lib.hid ⟨HH5.out.box.below (Below.drew (Below.refl _ _)) HH5.out.box.lt, HC5.out.below (Below.drew (Below.refl _ _)) HC5.out.lt⟩
  have z0 : ∀ u, (fun u => Box u (w.heap.size + 2) 27 y1.arr ∧ Box u (w.heap.size + 3) 37 (actS x.st v).2.1.arr) u → u.cell? ⟨w.heap.size + 1 + 1, 0, none⟩ = some (.slice y1.AD y1.nD y1.cD) := fun u h => h.1.cell 0
  have z1 : ∀ u, (fun u => Box u (w.heap.size + 2) 27 y1.arr ∧ Box u (w.heap.size + 3) 37 (actS x.st v).2.1.arr) u → u.cell? ⟨w.heap.size + 1 + 1, 1, none⟩ = some (.slice y1.AS y1.nS y1.cS) := fun u h => h.1.cell 1
  have z2 : ∀ u, (fun u => Box u (w.heap.size + 2) 27 y1.arr ∧ Box u (w.heap.size + 3) 37 (actS x.st v).2.1.arr) u → u.cell? ⟨w.heap.size + 1 + 1, 2, none⟩ = some (.int .i64 y1.nx) := fun u h => h.1.cell 2
  have yc0 : ∀ u, (fun u => Box u (w.heap.size + 2) 27 y1.arr ∧ Box u (w.heap.size + 3) 37 (actS x.st v).2.1.arr) u → u.cell? ⟨w.heap.size + 1 + 1 + 1, 0, none⟩ = some (.int .i64 (actS x.st v).2.1.sg) := fun u h => h.2.cell 0
  have yc1 : ∀ u, (fun u => Box u (w.heap.size + 2) 27 y1.arr ∧ Box u (w.heap.size + 3) 37 (actS x.st v).2.1.arr) u → u.cell? ⟨w.heap.size + 1 + 1 + 1, 1, none⟩ = some (.int .i64 (actS x.st v).2.1.sp) := fun u h => h.2.cell 1
  have yc2 : ∀ u, (fun u => Box u (w.heap.size + 2) 27 y1.arr ∧ Box u (w.heap.size + 3) 37 (actS x.st v).2.1.arr) u → u.cell? ⟨w.heap.size + 1 + 1 + 1, 2, none⟩ = some (.bool (actS x.st v).2.1.un) := fun u h => h.2.cell 2
  have yc3 : ∀ u, (fun u => Box u (w.heap.size + 2) 27 y1.arr ∧ Box u (w.heap.size + 3) 37 (actS x.st v).2.1.arr) u → u.cell? ⟨w.heap.size + 1 + 1 + 1, 3, none⟩ = some (.int .i64 (actS x.st v).2.1.tr) := fun u h => h.2.cell 3
  have yc4 : ∀ u, (fun u => Box u (w.heap.size + 2) 27 y1.arr ∧ Box u (w.heap.size + 3) 37 (actS x.st v).2.1.arr) u → u.cell? ⟨w.heap.size + 1 + 1 + 1, 4, none⟩ = some (.string (actS x.st v).2.1.pt) := fun u h => h.2.cell 4
  have yc5 : ∀ u, (fun u => Box u (w.heap.size + 2) 27 y1.arr ∧ Box u (w.heap.size + 3) 37 (actS x.st v).2.1.arr) u → u.cell? ⟨w.heap.size + 1 + 1 + 1, 5, none⟩ = some (.string (actS x.st v).2.1.key) := fun u h => h.2.cell 5
  refine wp_region_held_drew (S := fun u => Box u (w.heap.size + 2) 27 y1.arr ∧ Box u (w.heap.size + 3) 37 (actS x.st v).2.1.arr) (by kernel_rfl) (HSS.out) (fun hHeld => ?_)
  refine wpAnyH_take (i := 0) (oi := ⟨some 45, _, _, _, _, _⟩) (v := ?_) rfl (by kernel_rfl) (by kernel_rfl) (by kernel_rfl) (fun _ _ _ h => h) (Or.inl ⟨by rfl, ?_⟩) (by assumption) ?_
  rotate_left
  · (intro u hu; (try dsimp only at hu); go_simp; (try with_reducible rfl))
  (try simp only [Act.put, List.setIfInBounds_toArray, List.set_cons_zero, List.set_cons_succ])
  refine wpAnyH_take (i := 1) (oi := ⟨some 46, _, _, _, _, _⟩) (v := ?_) rfl (by kernel_rfl) (by kernel_rfl) (by kernel_rfl) (fun _ _ _ h => h) (Or.inl ⟨by rfl, ?_⟩) (by assumption) ?_
  rotate_left
  · (intro u hu; (try dsimp only at hu); go_simp; (try with_reducible rfl))
  (try simp only [Act.put, List.setIfInBounds_toArray, List.set_cons_zero, List.set_cons_succ])
  refine wpAnyH_take (i := 2) (oi := ⟨some 47, _, _, _, _, _⟩) (v := ?_) rfl (by kernel_rfl) (by kernel_rfl) (by kernel_rfl) (fun _ _ _ h => h) (Or.inl ⟨by rfl, ?_⟩) (by assumption) ?_
  rotate_left
  · (intro u hu; (try dsimp only at hu); go_simp; (try with_reducible rfl))
  (try simp only [Act.put, List.setIfInBounds_toArray, List.set_cons_zero, List.set_cons_succ])
  refine wpAnyH_ready (rs := [3]) (by decide +kernel) (by simp) ?_
  refine AllReadyH.cons (o := ⟨none, _, _, _, _, _⟩) rfl (fun K hK => ?_) AllReadyH.nil
  rw [if_pos (by rfl)]
  refine Sa.oper_store_row 27 _ _ rfl (w.heap.size + 2) 27 y1.arr y1.arr rfl rfl HSS.out.1 (sizeT _) rfl (oneT _) ?_
  have HS6 : Hid ((fun u => Box u (w.heap.size + 2) 27 y1.arr ∧ Box u (w.heap.size + 3) 37 (actS x.st v).2.1.arr) (W5.drew.setRow (w.heap.size + 2) y1.arr)) := Lib.hid ⟨Sa.box_row HSS.out.1 _, Sa.box_far HSS.out.2 (by omega) _⟩
  refine hK.out _ _ ?_ (fun hHeld => ?_)
  · exact HS6.out
  clear hK K
  (try simp only [Act.put])
  refine wpAnyH_ready (rs := [4]) (by decide +kernel) (by simp) ?_
  refine AllReadyH.cons (o := ⟨none, _, _, _, _, _⟩) rfl (fun K hK => ?_) AllReadyH.nil
  rw [if_pos (by rfl)]
  refine Sa.oper_store_row 37 _ _ rfl (w.heap.size + 3) 37 (actS x.st v).2.1.arr (actS x.st v).2.1.arr rfl rfl HS6.out.2 (Sa.sizeC _) rfl (Sa.oneC _) ?_
  have HS7 : Hid ((fun u => Box u (w.heap.size + 2) 27 y1.arr ∧ Box u (w.heap.size + 3) 37 (actS x.st v).2.1.arr) ((W5.drew.setRow (w.heap.size + 2) y1.arr).setRow (w.heap.size + 3) (actS x.st v).2.1.arr)) := Lib.hid ⟨Sa.box_far HS6.out.1 (by omega) _, Sa.box_row HS6.out.2 _⟩
  refine hK.out _ _ ?_ (fun hHeld => ?_)
  · exact HS7.out
  clear hK K
  (try simp only [Act.put])
  refine wpAnyH_take (i := 5) (oi := ⟨some 8, _, _, _, _, _⟩) (v := ?_) rfl (by kernel_rfl) (by kernel_rfl) (by kernel_rfl) (fun _ _ _ h => h) (Or.inl ⟨by rfl, ?_⟩) (by assumption) ?_
  rotate_left
  · (intro u hu; (try dsimp only at hu); go_simp; (try with_reducible rfl))
  (try simp only [Act.put, List.setIfInBounds_toArray, List.set_cons_zero, List.set_cons_succ])
  refine wpAnyH_done (by kernel_rfl) ?_ _
  go_wp2
  refine bodyPost_ret (res_st_cm_tmp rfl _ _ (w.heap.size + 2) (w.heap.size + 3) y1 (actS x.st v).2.1 rfl rfl HS7.out.1 HS7.out.2) rfl ?_
  have HE := do_end (w := w) (HB5.out.drew) (HH5.out.below (Below.drew (Below.refl _ _))) HSS.out.2 rfl
  refine ⟨y1, ?_, HE.1, ?_, HE.2⟩
  · rw [HF.out]; rfl
  · rw [HF.out]; exact HS4.out
theorem do_any16 : Calls Tryz.prog 7 #[.agg #[.slice x.AD x.nD x.cD, .slice x.AS x.nS x.cS, .int .i64 x.nx], .agg #[.int .i64 v.k, .int .i64 v.now, .int .i64 v.sg, .string v.nm, .int .i64 v.r.sg, .int .i64 v.r.sp, .bool v.r.un, .int .i64 v.r.tr, .bool v.r.good, .string v.dn, .int .i64 v.dl, .slice A n c], .int .i64 lim] w (DoIs w x v lim) := by
  cases hg : goodE v with
  | false => exact do_bad x v A n c lim w hx hi hb2 hv hg
  | true =>
    have hk := (good_ev_parts hg).1
    by_cases h1 : v.k = 0
    · exact do_define x v A n c lim w hx hi hb2 hv h0 ht hg h1
    · by_cases h2 : v.k = 1
      · exact do_start x v A n c lim w hx hi hb2 hv ht hg h2
      · by_cases h3 : v.k = 10
        · exact do_forget x v A n c lim w hx hi hb2 hv ht hg h3
        · exact do_act x v A n c lim w hx hi hb2 hv ht hg (by omega)
end
end Go.Proofs.YteejocnogpaifaaGreatDoor.Tt

namespace Go.Proofs.YteejocnogpaifaaGreatDoor.Co
open Go.ChangeShapes Go.WideShapes Go.ChangeAt Go.RowKit
open Go.Proofs.YteejocnogpaifaaGreatDoor.El
open Go.Proofs.YteejocnogpaifaaGreatDoor.Df
open Go.Proofs.YteejocnogpaifaaGreatDoor.Bo (P Made ret_int ret_bool)
open Go.Proofs.YteejocnogpaifaaGreatDoor.Sa (Sg Rp)

theorem cellsRp : Tryz.prog.cellsOf 30 = 5 := by kernel_rfl
theorem cellsEv : Tryz.prog.cellsOf 35 = 12 := by kernel_rfl
theorem u16_wf {x : Int} (h : (Lit.int .u16 x).wf = true) : 0 ≤ x ∧ x ≤ 65535 := by
  have h1 : IntKind.u16.min = 0 := rfl
  have h2 : IntKind.u16.max = 65535 := rfl
  simp only [Lit.wf, Bool.and_eq_true, decide_eq_true_eq] at h
  omega
section
variable {H : Type} {enc : TypeId × Value → H} {W : World}
set_option maxRecDepth 100000 in
theorem open_reply (fuel : Nat) (cs : List Value) (x : DataW H × List MemPlace) (h : DataW.trod enc Tryz.prog W 0 (fun _ => true) true fuel 30 cs = some x) (hl : cs.length = 5) : ∃ r : Rp, cs = [.int .i64 r.sg, .int .i64 r.sp, .bool r.un, .int .i64 r.tr, .bool r.good] := by
  obtain ⟨ys, n', _, _, _, hyl, hfld⟩ := DataW.trod_struct Tryz.underlying30 h
  simp only [List.size_toArray, List.length_cons, List.length_nil, Nat.reduceAdd] at hyl
  have e0 : DataW.trod enc Tryz.prog W 0 (fun _ => true) true n' 3 ((cs.drop 0).take (Tryz.prog.cellsOf 3)) = ys[0]? := hfld 0 _ rfl
  have e1 : DataW.trod enc Tryz.prog W 0 (fun _ => true) true n' 3 ((cs.drop 1).take (Tryz.prog.cellsOf 3)) = ys[1]? := hfld 1 _ rfl
  have e2 : DataW.trod enc Tryz.prog W 0 (fun _ => true) true n' 4 ((cs.drop 2).take (Tryz.prog.cellsOf 4)) = ys[2]? := hfld 2 _ rfl
  have e3 : DataW.trod enc Tryz.prog W 0 (fun _ => true) true n' 3 ((cs.drop 3).take (Tryz.prog.cellsOf 3)) = ys[3]? := hfld 3 _ rfl
  have e4 : DataW.trod enc Tryz.prog W 0 (fun _ => true) true n' 4 ((cs.drop 4).take (Tryz.prog.cellsOf 4)) = ys[4]? := hfld 4 _ rfl
  match cs, hl, ys, hyl with
  | [c0, c1, c2, c3, c4], _, [y0, y1, y2, y3, y4], _ =>
    simp only [cellsI, cellsBo, List.drop_zero, List.drop_succ_cons, List.take_succ_cons, List.take_zero, List.getElem?_cons_zero, List.getElem?_cons_succ] at e0 e1 e2 e3 e4
    obtain ⟨x0, q0, _, _⟩ := DataW.trod_int Tryz.underlying3 e0
    obtain ⟨x1, q1, _, _⟩ := DataW.trod_int Tryz.underlying3 e1
    obtain ⟨x2, q2, _⟩ := DataW.trod_bool Tryz.underlying4 e2
    obtain ⟨x3, q3, _, _⟩ := DataW.trod_int Tryz.underlying3 e3
    obtain ⟨x4, q4, _⟩ := DataW.trod_bool Tryz.underlying4 e4
    simp only [List.cons.injEq, and_true] at q0 q1 q2 q3 q4
    subst q0 q1 q2 q3 q4
    exact ⟨⟨x0, x1, x2, x3, x4⟩, rfl⟩
set_option maxRecDepth 100000 in
theorem open_def (fuel : Nat) (cs : List Value) (x : DataW H × List MemPlace) (h : DataW.trod enc Tryz.prog W 0 (fun _ => true) true fuel 33 cs = some x) (hl : cs.length = 3) :
    ∃ (nm : ByteArray) (dl : Int) (A : Option Addr) (c : Nat) (ss : List Stp), cs = [.string nm, .int .i64 dl, .slice A ss.length c] ∧ nm.size ≤ 9223372036854775807 ∧ ss.length ≤ 9223372036854775807 ∧ ss.length ≤ c ∧ (∀ s ∈ ss, s.Fits) ∧ Df.Steps W W.heap.size A ss := by
  match cs, hl with
  | [c0, c1, c2], _ =>
  obtain ⟨d, pl⟩ := x
  obtain ⟨y0, y1, y2, m, hx, _, hy0, hy1, hy2⟩ := Deep.trod_struct3 Tryz.underlying33 h
  obtain ⟨x0, e0, _, w0⟩ := DataW.trod_string Tryz.underlying9 hy0
  obtain ⟨x1, e1, _, w1⟩ := DataW.trod_int Tryz.underlying3 hy1
  obtain ⟨a0, len, cap, ss, e2, hn, hc, hm, hg, hE, hnil⟩ := els_of (⟨⟨#[]⟩, ⟨#[]⟩, 0, ⟨0, 0, 0, 0⟩, ⟨0, 0, 0, 0⟩, 0⟩ : Stp) Stp.cells Stp.Fits 12 (by omega) Tryz.underlying31 (by kernel_rfl) open_step hy2
  simp [cellsI, cellsStr, cellsSl] at e0 e1 e2
  subst e0 e1 e2 hn
  exact ⟨x0, x1, a0, cap, ss, rfl, by unfold maxLen at w0; exact by omega, hm, hc, hg, hE⟩
set_option maxRecDepth 100000 in
/-- an argument: an event by value -/
theorem arg_ev {r : Reach} {base : Nat} {v : Value} {d : DataW H} {pl : List MemPlace} (hv : Value.okWide Tryz.prog W r base 35 v)
    (h : DataW.Trod enc Tryz.prog W 0 (fun _ => true) true 35 v d pl) :
    ∃ (x : Ev) (A : Option Addr) (c : Nat), v = .agg #[.int .i64 x.k, .int .i64 x.now, .int .i64 x.sg, .string x.nm, .int .i64 x.r.sg, .int .i64 x.r.sp, .bool x.r.un, .int .i64 x.r.tr, .bool x.r.good, .string x.dn, .int .i64 x.dl, .slice A x.ss.length c] ∧
      (x.nm.size ≤ 9223372036854775807 ∧ x.dn.size ≤ 9223372036854775807) ∧ x.ss.length ≤ 9223372036854775807 ∧ x.ss.length ≤ c ∧ (∀ s ∈ x.ss, s.Fits) ∧ Df.Steps W W.heap.size A x.ss := by
  obtain ⟨cs, rfl, hsz⟩ := okWide_struct Tryz.underlying35 hv
  rw [cellsEv] at hsz
  obtain ⟨cs⟩ := cs
  obtain ⟨fuel, hf⟩ := h
  replace hf : DataW.trod enc Tryz.prog W 0 (fun _ => true) true fuel 35 cs = some (d, pl) := hf
  obtain ⟨ys, n', _, hx, _, hyl, hfld⟩ := DataW.trod_struct Tryz.underlying35 hf
  simp only [List.size_toArray, List.length_cons, List.length_nil, Nat.reduceAdd] at hyl
  have e0 : DataW.trod enc Tryz.prog W 0 (fun _ => true) true n' 3 ((cs.drop 0).take (Tryz.prog.cellsOf 3)) = ys[0]? := hfld 0 _ rfl
  have e1 : DataW.trod enc Tryz.prog W 0 (fun _ => true) true n' 3 ((cs.drop 1).take (Tryz.prog.cellsOf 3)) = ys[1]? := hfld 1 _ rfl
  have e2 : DataW.trod enc Tryz.prog W 0 (fun _ => true) true n' 3 ((cs.drop 2).take (Tryz.prog.cellsOf 3)) = ys[2]? := hfld 2 _ rfl
  have e3 : DataW.trod enc Tryz.prog W 0 (fun _ => true) true n' 9 ((cs.drop 3).take (Tryz.prog.cellsOf 9)) = ys[3]? := hfld 3 _ rfl
  have e4 : DataW.trod enc Tryz.prog W 0 (fun _ => true) true n' 30 ((cs.drop 4).take (Tryz.prog.cellsOf 30)) = ys[4]? := hfld 4 _ rfl
  have e5 : DataW.trod enc Tryz.prog W 0 (fun _ => true) true n' 33 ((cs.drop 9).take (Tryz.prog.cellsOf 33)) = ys[5]? := hfld 5 _ rfl
  match cs, hsz, ys, hyl with
  | [c0, c1, c2, c3, c4, c5, c6, c7, c8, c9, c10, c11], _, [y0, y1, y2, y3, y4, y5], _ =>
    simp only [cellsI, cellsStr, cellsRp, cellsD, List.drop_zero, List.drop_succ_cons, List.take_succ_cons, List.take_zero, List.getElem?_cons_zero, List.getElem?_cons_succ] at e0 e1 e2 e3 e4 e5
    obtain ⟨x0, q0, _, _⟩ := DataW.trod_int Tryz.underlying3 e0
    obtain ⟨x1, q1, _, _⟩ := DataW.trod_int Tryz.underlying3 e1
    obtain ⟨x2, q2, _, _⟩ := DataW.trod_int Tryz.underlying3 e2
    obtain ⟨x3, q3, _, w3⟩ := DataW.trod_string Tryz.underlying9 e3
    obtain ⟨x4, q4⟩ := open_reply _ _ _ e4 rfl
    obtain ⟨nm, dl, A, c, ss, q5, hz, hn, hc, hg, hE⟩ := open_def _ _ _ e5 rfl
    simp only [List.cons.injEq, and_true] at q0 q1 q2 q3 q4 q5
    obtain ⟨rfl, rfl, rfl, rfl, rfl⟩ := q4
    obtain ⟨rfl, rfl, rfl⟩ := q5
    subst q0 q1 q2 q3
    exact ⟨⟨x0, x1, x2, x3, x4, nm, dl, ss⟩, A, c, rfl, ⟨by unfold maxLen at w3; exact by omega, hz⟩, hn, hc, hg, hE⟩
end
end Go.Proofs.YteejocnogpaifaaGreatDoor.Co

namespace Go.Proofs.YteejocnogpaifaaGreatDoor.Tt
open Go.ChangeShapes Go.WideShapes Go.ChangeAt Go.RowKit
open Go.Proofs.YteejocnogpaifaaGreatDoor.El
open Go.Proofs.YteejocnogpaifaaGreatDoor.Df
open Go.Proofs.YteejocnogpaifaaGreatDoor.Co (Ev)
open Go.Proofs.YteejocnogpaifaaGreatDoor.Sa (Sg Rp)

/-- an event, and where its steps lie -/
structure EX where
  v : Ev
  A : Option Addr
  c : Nat
def EX.cells (e : EX) : List Value := [.int .i64 e.v.k, .int .i64 e.v.now, .int .i64 e.v.sg, .string e.v.nm, .int .i64 e.v.r.sg, .int .i64 e.v.r.sp, .bool e.v.r.un, .int .i64 e.v.r.tr, .bool e.v.r.good, .string e.v.dn, .int .i64 e.v.dl, .slice e.A e.v.ss.length e.c]
theorem ex_len (e : EX) : e.cells.length = 12 := rfl
structure EX.Fits (W : World) (e : EX) : Prop where
  nm : e.v.nm.size ≤ 9223372036854775807
  dn : e.v.dn.size ≤ 9223372036854775807
  len : e.v.ss.length ≤ 9223372036854775807
  cap : e.v.ss.length ≤ e.c
  each : ∀ s ∈ e.v.ss, s.Fits
  mem : Df.Steps W W.heap.size e.A e.v.ss
  nil : e.A = none → e.v.ss.length = 0 ∧ e.c = 0
theorem EX.Fits.on {W U : World} {e : EX} (h : e.Fits W) (hb : Below W.heap.size W U) : e.Fits U := ⟨h.nm, h.dn, h.len, h.cap, h.each, h.mem.on hb, h.nil⟩
section
variable {H : Type} {enc : TypeId × Value → H} {W : World}
set_option maxRecDepth 100000 in
theorem open_def16 (fuel : Nat) (cs : List Value) (x : DataW H × List MemPlace) (h : DataW.trod enc Tryz.prog W 0 (fun _ => true) true fuel 33 cs = some x) (hl : cs.length = 3) :
    ∃ (nm : ByteArray) (dl : Int) (A : Option Addr) (c : Nat) (ss : List Stp), cs = [.string nm, .int .i64 dl, .slice A ss.length c] ∧ nm.size ≤ 9223372036854775807 ∧ ss.length ≤ 9223372036854775807 ∧ ss.length ≤ c ∧ (∀ s ∈ ss, s.Fits) ∧ Df.Steps W W.heap.size A ss ∧ (A = none → ss.length = 0 ∧ c = 0) := by
  match cs, hl with
  | [c0, c1, c2], _ =>
  obtain ⟨d, pl⟩ := x
  obtain ⟨y0, y1, y2, m, hx, _, hy0, hy1, hy2⟩ := Deep.trod_struct3 Tryz.underlying33 h
  obtain ⟨x0, e0, _, w0⟩ := DataW.trod_string Tryz.underlying9 hy0
  obtain ⟨x1, e1, _, w1⟩ := DataW.trod_int Tryz.underlying3 hy1
  obtain ⟨a0, len, cap, ss, e2, hn, hc, hm, hg, hE, hnil⟩ := els_of (⟨⟨#[]⟩, ⟨#[]⟩, 0, ⟨0, 0, 0, 0⟩, ⟨0, 0, 0, 0⟩, 0⟩ : Stp) Stp.cells Stp.Fits 12 (by omega) Tryz.underlying31 (by kernel_rfl) open_step hy2
  simp [cellsI, cellsStr, cellsSl] at e0 e1 e2
  subst e0 e1 e2 hn
  exact ⟨x0, x1, a0, cap, ss, rfl, by unfold maxLen at w0; exact by omega, hm, hc, hg, hE, hnil⟩
set_option maxRecDepth 100000 in
theorem open_ev (fuel : Nat) (cs : List Value) (x : DataW H × List MemPlace) (h : DataW.trod enc Tryz.prog W 0 (fun _ => true) true fuel 35 cs = some x) (hl : cs.length = 12) : ∃ e : EX, e.Fits W ∧ cs = e.cells := by
  obtain ⟨ys, n', _, hx, _, hyl, hfld⟩ := DataW.trod_struct Tryz.underlying35 h
  simp only [List.size_toArray, List.length_cons, List.length_nil, Nat.reduceAdd] at hyl
  have e0 : DataW.trod enc Tryz.prog W 0 (fun _ => true) true n' 3 ((cs.drop 0).take (Tryz.prog.cellsOf 3)) = ys[0]? := hfld 0 _ rfl
  have e1 : DataW.trod enc Tryz.prog W 0 (fun _ => true) true n' 3 ((cs.drop 1).take (Tryz.prog.cellsOf 3)) = ys[1]? := hfld 1 _ rfl
  have e2 : DataW.trod enc Tryz.prog W 0 (fun _ => true) true n' 3 ((cs.drop 2).take (Tryz.prog.cellsOf 3)) = ys[2]? := hfld 2 _ rfl
  have e3 : DataW.trod enc Tryz.prog W 0 (fun _ => true) true n' 9 ((cs.drop 3).take (Tryz.prog.cellsOf 9)) = ys[3]? := hfld 3 _ rfl
  have e4 : DataW.trod enc Tryz.prog W 0 (fun _ => true) true n' 30 ((cs.drop 4).take (Tryz.prog.cellsOf 30)) = ys[4]? := hfld 4 _ rfl
  have e5 : DataW.trod enc Tryz.prog W 0 (fun _ => true) true n' 33 ((cs.drop 9).take (Tryz.prog.cellsOf 33)) = ys[5]? := hfld 5 _ rfl
  match cs, hl, ys, hyl with
  | [c0, c1, c2, c3, c4, c5, c6, c7, c8, c9, c10, c11], _, [y0, y1, y2, y3, y4, y5], _ =>
    simp only [cellsI, cellsStr, Co.cellsRp, cellsD, List.drop_zero, List.drop_succ_cons, List.take_succ_cons, List.take_zero, List.getElem?_cons_zero, List.getElem?_cons_succ] at e0 e1 e2 e3 e4 e5
    obtain ⟨x0, q0, _, _⟩ := DataW.trod_int Tryz.underlying3 e0
    obtain ⟨x1, q1, _, _⟩ := DataW.trod_int Tryz.underlying3 e1
    obtain ⟨x2, q2, _, _⟩ := DataW.trod_int Tryz.underlying3 e2
    obtain ⟨x3, q3, _, w3⟩ := DataW.trod_string Tryz.underlying9 e3
    obtain ⟨x4, q4⟩ := Co.open_reply _ _ _ e4 rfl
    obtain ⟨nm, dl, A, c, ss, q5, hz, hn, hc, hg, hE, hnil⟩ := open_def16 _ _ _ e5 rfl
    simp only [List.cons.injEq, and_true] at q0 q1 q2 q3 q4 q5
    obtain ⟨rfl, rfl, rfl, rfl, rfl⟩ := q4
    obtain ⟨rfl, rfl, rfl⟩ := q5
    subst q0 q1 q2 q3
    exact ⟨⟨⟨x0, x1, x2, x3, x4, nm, dl, ss⟩, A, c⟩, ⟨by unfold maxLen at w3; exact by omega, hz, hn, hc, hg, hE, hnil⟩, rfl⟩
set_option maxRecDepth 100000 in
/-- an argument: a slice of events -/
theorem arg_evs {r : Reach} {base : Nat} {v : Value} {d : DataW H} {pl : List MemPlace} (hv : Value.okWide Tryz.prog W r base 22 v)
    (h : DataW.Trod enc Tryz.prog W 0 (fun _ => true) true 22 v d pl) :
    ∃ (A : Option Addr) (c : Nat) (l : List EX), v = .slice A l.length c ∧ l.length ≤ 9223372036854775807 ∧ (∀ e ∈ l, e.Fits W) ∧ Els EX.cells 12 W W.heap.size A l := by
  obtain ⟨a, len, cap, rfl⟩ := okWide_slice Tryz.underlying22 hv
  obtain ⟨fuel, hf⟩ := h
  obtain ⟨a0, len', cap', l, e2, hn, hc, hm, hg, hE, _⟩ := els_of (⟨⟨0, 0, 0, ⟨#[]⟩, ⟨0, 0, false, 0, false⟩, ⟨#[]⟩, 0, []⟩, none, 0⟩ : EX) EX.cells (EX.Fits W) 12 (by omega) Tryz.underlying22 (by kernel_rfl) open_ev hf
  simp [Value.cells] at e2
  obtain ⟨rfl, rfl, rfl⟩ := e2
  subst hn
  exact ⟨a, cap, l, rfl, hm, hg, hE⟩
end
end Go.Proofs.YteejocnogpaifaaGreatDoor.Tt

namespace Go.Proofs.YteejocnogpaifaaGreatDoor.Df
open Go.RowKit
open Go.Proofs.YteejocnogpaifaaGreatDoor.El
open Go.Proofs.YteejocnogpaifaaGreatDoor.Bo (P Made ret_int ret_bool)

def okS (s : Stp) : Bool := decide (s.nm.size ≤ 100) && decide (s.pt.size ≤ 100)
def smallI (nm : ByteArray) (ss : List Stp) : Int := if 40 < ss.length ∨ 100 < nm.size then 1 else if ss.all okS = true then 0 else 2
theorem small_yes {nm : ByteArray} {ss : List Stp} (h : smallI nm ss = 0) : ss.length ≤ 40 ∧ nm.size ≤ 100 ∧ ∀ s ∈ ss, s.nm.size ≤ 100 ∧ s.pt.size ≤ 100 := by
  unfold smallI at h
  split at h
  · cases h
  · split at h
    · next h1 h2 =>
      refine ⟨by omega, by omega, fun s hs => ?_⟩
      have := List.all_eq_true.1 h2 s hs
      unfold okS at this
      simpa using this
    · cases h
theorem small_bad {nm : ByteArray} {ss : List Stp} (h : ¬ (40 < ss.length ∨ 100 < nm.size)) {k : Nat} {s : Stp} (hs : ss[k]? = some s) (hb : okS s = false) : smallI nm ss = 2 := by
  unfold smallI
  rw [if_neg h, if_neg]
  intro h2
  have := List.all_eq_true.1 h2 s (List.mem_of_getElem? hs)
  rw [hb] at this
  cases this
theorem small_end {nm : ByteArray} {ss : List Stp} (h : ¬ (40 < ss.length ∨ 100 < nm.size)) (hk : ∀ i s, i < ss.length → ss[i]? = some s → okS s = true) : smallI nm ss = 0 := by
  unfold smallI
  rw [if_neg h, if_pos]
  refine List.all_eq_true.2 fun s hs => ?_
  obtain ⟨i, hi⟩ := List.mem_iff_getElem?.1 hs
  exact hk i s (at_lt hi) hi
set_option maxHeartbeats 2000000 in
set_option maxRecDepth 100000 in
theorem small_any (nm : ByteArray) (dl : Int) (A : Option Addr) (c : Nat) (ss : List Stp) (n : Nat) (w : World) (hn : n = ss.length) (hb : n ≤ 9223372036854775807) (hnm : nm.size ≤ 9223372036854775807) (hfit : ∀ s ∈ ss, s.Fits) (hS : Steps w w.heap.size A ss) :
    Calls Tryz.prog 14 #[.agg #[.string nm, .int .i64 dl, .slice A n c]] w fun e w' => e = .returned (.int .i64 (smallI nm ss)) ∧ Made w w' := by
  by_cases h1 : 40 < n
  · have HR : Hid (smallI nm ss = 1) := Lib.hid (by unfold smallI; rw [if_pos (.inl (by omega))])
    clear hS hn hfit
    go_enter Tryz.func14, Tryz.ntmps14
    go_wp2
    go_ret
    exact ⟨ret_int HR.out.symm, Made.alloc _ _⟩
  by_cases h2 : 100 < nm.size
  · have HR : Hid (smallI nm ss = 1) := Lib.hid (by unfold smallI; rw [if_pos (.inr h2)])
    clear hS hn hfit
    go_enter Tryz.func14, Tryz.ntmps14
    go_wp2
    go_ret
    exact ⟨ret_int HR.out.symm, Made.alloc _ _⟩
  have HNo : Hid (¬ (40 < ss.length ∨ 100 < nm.size)) := Lib.hid (by omega)
  have HS := Lib.hid hS
  have HN := Lib.hid hn
  have HF := Lib.hid hfit
  clear hS hn hfit
  go_enter Tryz.func14, Tryz.ntmps14
  go_wp2
  have HM := Lib.hid (Made.alloc w (.cells #[.string nm, .int .i64 dl, .slice A n c] 33))
  have HB := Lib.hid (Box.new w 33 #[.string nm, .int .i64 dl, .slice A n c])
  generalize w.alloc (.cells #[.string nm, .int .i64 dl, .slice A n c] 33) = W0 at *
  have e2 : W0.cell? ⟨w.heap.size, 2, none⟩ = some (.slice A n c) := HB.out.cell 2
  go_loopw [3] (fun vi wr => ∃ k : Nat, vi = .int .i64 (k : Int) ∧ k ≤ n ∧ wr = W0 ∧ Hid (∀ i s, i < k → ss[i]? = some s → okS s = true)) (fun vi _ => n - (intOf vi).toNat)
  case atStart => exact ⟨0, rfl, Nat.zero_le _, rfl, Lib.hid fun i s hi => absurd hi (by omega)⟩
  case round =>
    obtain ⟨k, rfl, hk, rfl, HI⟩ := hrel
    by_cases hkn : k < n
    · obtain ⟨x, hx⟩ : ∃ x, ss[k]? = some x := ⟨_, List.getElem?_eq_getElem (by have := HN.out; omega)⟩
      obtain ⟨b, o, rfl, hbl⟩ := HS.out.at_ hx
      have HS0 := Lib.hid (HS.out.below HM.out.below)
      have c0 : wr.cell? ⟨b, o + k * 12, none⟩ = some (.string x.nm) := HS0.out.get hx 0 rfl
      have c1 : wr.cell? ⟨b, o + k * 12 + 1, none⟩ = some (.string x.pt) := HS0.out.get hx 1 rfl
      obtain ⟨hf1, hf2⟩ := HF.out x (List.mem_of_getElem? hx)
      have HX := Lib.hid hx
      clear hx
      by_cases hq1 : 100 < x.nm.size
      · have HR : Hid (smallI nm ss = 2) := Lib.hid (small_bad HNo.out HX.out (by unfold okS; rw [decide_eq_false (by omega)]; rfl))
        go_wp2
        go_ret
        exact ⟨ret_int HR.out.symm, HM.out⟩
      · by_cases hq2 : 100 < x.pt.size
        · have HR : Hid (smallI nm ss = 2) := Lib.hid (small_bad HNo.out HX.out (by unfold okS; rw [decide_eq_false (p := x.pt.size ≤ 100) (by omega)]; simp))
          go_wp2
          go_ret
          exact ⟨ret_int HR.out.symm, HM.out⟩
        · have HNx : Hid (∀ i s, i < k + 1 → ss[i]? = some s → okS s = true) := Lib.hid fun i s hi hs => by
            by_cases e : i = k
            · subst e
              rw [HX.out] at hs
              injection hs with hs
              subst hs
              unfold okS
              rw [decide_eq_true (by omega), decide_eq_true (by omega)]
              rfl
            · exact HI.out i s (by omega) hs
          go_wp2
          go_roundw
          case rel => exact ⟨k + 1, by go_num, by omega, trivial, HNx⟩
          case measure => simp [intOf]; omega
    · have HR : Hid (smallI nm ss = 0) := Lib.hid (small_end HNo.out fun i s hi hs => HI.out i s (by have := HN.out; omega) hs)
      go_wp2
      go_ret
      exact ⟨ret_int HR.out.symm, HM.out⟩
end Go.Proofs.YteejocnogpaifaaGreatDoor.Df

namespace Go.Proofs.YteejocnogpaifaaGreatDoor.Tt
open Go.RowKit
open Go.Proofs.YteejocnogpaifaaGreatDoor.El
open Go.Proofs.YteejocnogpaifaaGreatDoor.Df
open Go.Proofs.YteejocnogpaifaaGreatDoor.Bo (P Made ret_int ret_bool)
open Go.Proofs.YteejocnogpaifaaGreatDoor.Sa (Sg Cm Rp cm0)
open Go.Proofs.YteejocnogpaifaaGreatDoor.Co (Ev Mod evc EvIn goodE)

def shortI (v : Ev) : Int := if 200 < v.nm.size then 1 else smallI v.dn v.ss
theorem short_yes {v : Ev} (h : shortI v = 0) : v.nm.size ≤ 200 ∧ smallI v.dn v.ss = 0 := by
  unfold shortI at h
  split at h
  · cases h
  · exact ⟨by omega, h⟩
theorem short_mod {v : Ev} (h : shortI v = 0) : Mod v.dn v.ss ∧ v.nm.size ≤ 1000000 := by
  obtain ⟨h1, h2⟩ := short_yes h
  obtain ⟨h3, h4, h5⟩ := small_yes h2
  exact ⟨⟨by omega, by omega, fun s hs => by have := h5 s hs; omega⟩, by omega⟩
set_option maxHeartbeats 1000000 in
set_option maxRecDepth 100000 in
theorem short_any (x : EX) (n : Nat) (hn : n = x.v.ss.length) (w : World) (h : x.Fits w) :
    Calls Tryz.prog 6 #[.agg #[.int .i64 x.v.k, .int .i64 x.v.now, .int .i64 x.v.sg, .string x.v.nm, .int .i64 x.v.r.sg, .int .i64 x.v.r.sp, .bool x.v.r.un, .int .i64 x.v.r.tr, .bool x.v.r.good, .string x.v.dn, .int .i64 x.v.dl, .slice x.A n x.c]] w fun e w' => e = .returned (.int .i64 (shortI x.v)) ∧ Below w.heap.size w w' := by
  have hB0 : Below w.heap.size w (w.alloc (.cells #[.int .i64 x.v.k, .int .i64 x.v.now, .int .i64 x.v.sg, .string x.v.nm, .int .i64 x.v.r.sg, .int .i64 x.v.r.sp, .bool x.v.r.un, .int .i64 x.v.r.tr, .bool x.v.r.good, .string x.v.dn, .int .i64 x.v.dl, .slice x.A n x.c] 35)) := (Below.refl _ w).alloc (Nat.le_refl _) _
  have HB := Lib.hid hB0
  have HS := Lib.hid (small_any x.v.dn x.v.dl x.A x.c x.v.ss n (w.alloc (.cells #[.int .i64 x.v.k, .int .i64 x.v.now, .int .i64 x.v.sg, .string x.v.nm, .int .i64 x.v.r.sg, .int .i64 x.v.r.sp, .bool x.v.r.un, .int .i64 x.v.r.tr, .bool x.v.r.good, .string x.v.dn, .int .i64 x.v.dl, .slice x.A n x.c] 35)) hn (by have := h.len; omega) h.dn h.each (h.mem.on hB0))
  have hz := h.nm
  clear h hn hB0
  by_cases hl : 200 < x.v.nm.size
  · have HR : Hid (shortI x.v = 1) := Lib.hid (by unfold shortI; rw [if_pos hl])
    go_enter Tryz.func6, Tryz.ntmps6
    go_wp2
    go_ret
    exact ⟨by rw [HR.out]; rfl, HB.out⟩
  · have HR : Hid (shortI x.v = smallI x.v.dn x.v.ss) := Lib.hid (by unfold shortI; rw [if_neg hl])
    go_enter Tryz.func6, Tryz.ntmps6
    go_wp2_with (go_at_call 14; (with_reducible refine HS.out.mono ?_); rintro e w1 ⟨rfl, hm⟩; have HM := Lib.hid hm; clear hm)
    go_ret
    exact ⟨by rw [HR.out]; rfl, HB.out.trans (HM.out.below.mono HB.out.size)⟩

def stp0 : Stp := ⟨⟨#[98]⟩, ⟨#[99]⟩, 1, ⟨0, 1, 1, 1⟩, ⟨0, 1, 1, 1⟩, 0⟩
def ev0 : Ev := ⟨0, 0, 0, ⟨#[]⟩, ⟨0, 0, false, 0, false⟩, ⟨#[97]⟩, 0, [stp0]⟩
def ev1 : Ev := ⟨1, 0, 0, ⟨#[97]⟩, ⟨0, 0, false, 0, false⟩, ⟨#[]⟩, 0, []⟩
def sv0 : SV := ⟨none, 0, 0, none, 0, 0, 0, [], []⟩
def ms1 : Ms := ⟨[⟨⟨#[97]⟩, 0, [stp0]⟩], [], 0⟩
theorem do_1 : doS sv0.st ev0 5 = (ms1, cm0, 0) := by kernel_rfl
theorem do_2 : doS ms1 ev1 5 = (⟨ms1.ds, [Sa.beginS ⟨#[97]⟩ 0 0], 1⟩, cm0, 0) := by kernel_rfl
theorem inv_1 : Inv ms1 := by
  have h := inv_do (x := sv0.st) (v := ev0) (lim := 5) inv0 (by refine ⟨by decide, by decide, fun s hs => ?_⟩; rw [List.mem_singleton.1 hs]; decide)
  rw [do_1] at h
  exact h
theorem sin_0 (w : World) : SIn w sv0 := ⟨rfl, Nat.le_refl _, fun i a h => by simp [sv0] at h, fun d h => by simp [sv0] at h, fun _ => ⟨rfl, rfl⟩, rfl, Nat.le_refl _, fun i a h => by simp [sv0] at h, fun _ => ⟨rfl, rfl⟩⟩
theorem first_do (w : World) (b : Nat) (ht : Df.Tab w) (hb : Box w b 54 stp0.cells.toArray) :
    Calls Tryz.prog 7 #[.agg #[.slice none 0 0, .slice none 0 0, .int .i64 0], .agg #[.int .i64 0, .int .i64 0, .int .i64 0, .string ⟨#[]⟩, .int .i64 0, .int .i64 0, .bool false, .int .i64 0, .bool false, .string ⟨#[97]⟩, .int .i64 0, .slice (some ⟨b, 0, none⟩) 1 1], .int .i64 5] w
      fun e w' => ∃ y : SV, e = .returned (.tuple #[.agg #[.slice y.AD y.nD y.cD, .slice y.AS y.nS y.cS, .int .i64 y.nx], .agg #[.int .i64 0, .int .i64 0, .bool false, .int .i64 0, .string ⟨#[]⟩, .string ⟨#[]⟩], .int .i64 0]) ∧ SIn w' y ∧ y.st = ms1 ∧ Below w.heap.size w w' := by
  have hst : Df.Steps w w.heap.size (some ⟨b, 0, none⟩) [stp0] := fun i s hs => by
    cases i with
    | zero =>
      simp only [List.getElem?_cons_zero, Option.some.injEq] at hs
      subst hs
      refine ⟨b, 0, rfl, hb.lt, fun j u hj => ?_⟩
      have := hb.cell j
      rw [Nat.zero_mul, Nat.add_zero, Nat.zero_add, this]
      simpa using hj
    | succ i => simp at hs
  refine (do_any16 sv0 ev0 (some ⟨b, 0, none⟩) 1 1 5 w (sin_0 w) inv0 (by decide) ⟨rfl, Nat.le_refl _, ⟨by decide, by decide, fun s hs => by rw [List.mem_singleton.1 hs]; decide⟩, by decide, hst⟩ (fun h => by cases h) ht).mono ?_
  rintro e w' ⟨y, rfl, h1, h2, h3⟩
  rw [do_1] at h2 ⊢
  exact ⟨y, rfl, h1.sin, h2, h3⟩
theorem second_do (w : World) (y : SV) (ht : Df.Tab w) (hy : SIn w y) (hs : y.st = ms1) :
    Calls Tryz.prog 7 #[.agg #[.slice y.AD y.nD y.cD, .slice y.AS y.nS y.cS, .int .i64 y.nx], .agg #[.int .i64 1, .int .i64 0, .int .i64 0, .string ⟨#[97]⟩, .int .i64 0, .int .i64 0, .bool false, .int .i64 0, .bool false, .string ⟨#[]⟩, .int .i64 0, .slice none 0 0], .int .i64 5] w
      fun e w' => ∃ z : SV, e = .returned (.tuple #[.agg #[.slice z.AD z.nD z.cD, .slice z.AS 1 z.cS, .int .i64 1], .agg #[.int .i64 0, .int .i64 0, .bool false, .int .i64 0, .string ⟨#[]⟩, .string ⟨#[]⟩], .int .i64 0]) ∧ Below w.heap.size w w' := by
  have hS : y.nS ≤ 1000000000 := by
    have h1 := hy.lS
    have h2 : y.gs = [] := congrArg Ms.gs hs
    rw [h2] at h1
    rw [h1]
    decide
  refine (do_any16 y ev1 none 0 0 5 w hy (by rw [hs]; exact inv_1) hS ⟨rfl, Nat.le_refl _, ⟨by decide, by decide, fun s hs => by cases hs⟩, by decide, fun i s h => by simp [ev1] at h⟩ (fun _ => ⟨rfl, rfl⟩) ht).mono ?_
  rintro e w' ⟨z, rfl, h1, h2, h3⟩
  rw [hs, do_2] at h2 ⊢
  have hg : z.gs = [Sa.beginS ⟨#[97]⟩ 0 0] := congrArg Ms.gs h2
  have hn : z.nS = 1 := by rw [h1.lS, hg]; rfl
  have hx : z.nx = 1 := congrArg Ms.nx h2
  refine ⟨z, ?_, h3⟩
  unfold SV.arr
  rw [hn, hx]
  rfl
theorem below_al3 (w : World) (o o' o2 : Obj) : Below w.heap.size w (((w.alloc o).alloc o').alloc o2) := (below_al2 w o o').trans ((below_al ((w.alloc o).alloc o') o2).mono (by simp; omega))
theorem box_mid (w : World) (o o2 : Obj) (t : TypeId) (cs : Array Value) : Box (((w.alloc o).alloc (.cells cs t)).alloc o2) (w.heap.size + 1) t cs := (box_new2 w o t cs).alloc o2
set_option maxHeartbeats 2000000 in
set_option maxRecDepth 100000 in
theorem awake16_any (w : World) (ht : Df.Tab w) : Calls Tryz.prog 5 #[] w fun e w' => e = .returned (.bool true) ∧ Below w.heap.size w w' := by
  have HT := Lib.hid (fun W (hW : Below w.heap.size w W) => tab_below ht hW)
  clear ht
  go_enter Tryz.func5, Tryz.ntmps5
  go_upto_region 4 with (go_at_call 7; refine (first_do _ (w.heap.size + 1) (HT.out _ (below_al3 w _ _ _)) (box_mid w _ _ _ _)).mono ?_; rintro e w1 ⟨y, rfl, hy, hs, hb⟩; have HB1 : Hid (Below w.heap.size w w1) := Lib.hid ((below_al3 w _ _ _).trans (hb.mono (below_al3 w _ _ _).size)); have HY := Lib.hid hy; have HS := Lib.hid hs; clear hy hs hb)
  have HLE : Hid (w.heap.size ≤ w1.heap.size) := Lib.hid HB1.out.size
  have HX := Lib.hid (box_al2 w1 27 #[.slice y.AD y.nD y.cD, .slice y.AS y.nS y.cS, .int .i64 y.nx] (.cells #[.int .i64 0, .int .i64 0, .bool false, .int .i64 0, .string ⟨#[]⟩, .string ⟨#[]⟩] 37))
  have HBW : Hid (Below w.heap.size w ((w1.alloc (.cells #[.slice y.AD y.nD y.cD, .slice y.AS y.nS y.cS, .int .i64 y.nx] 27)).alloc (.cells #[.int .i64 0, .int .i64 0, .bool false, .int .i64 0, .string ⟨#[]⟩, .string ⟨#[]⟩] 37))) := Lib.hid (HB1.out.trans ((below_al2 w1 _ _).mono HB1.out.size))
  have HY1 := Lib.hid (HY.out.on (below_al2 w1 (.cells #[.slice y.AD y.nD y.cD, .slice y.AS y.nS y.cS, .int .i64 y.nx] 27) (.cells #[.int .i64 0, .int .i64 0, .bool false, .int .i64 0, .string ⟨#[]⟩, .string ⟨#[]⟩] 37)))
  clear HY HB1
  generalize ((w1.alloc (.cells #[.slice y.AD y.nD y.cD, .slice y.AS y.nS y.cS, .int .i64 y.nx] 27)).alloc (.cells #[.int .i64 0, .int .i64 0, .bool false, .int .i64 0, .string ⟨#[]⟩, .string ⟨#[]⟩] 37)) = W1 at *
  generalize hgb : w1.heap.size = b at *
  clear hgb
  have c0 : W1.cell? ⟨b, 0, none⟩ = some (.slice y.AD y.nD y.cD) := HX.out.cell 0
  have c1 : W1.cell? ⟨b, 1, none⟩ = some (.slice y.AS y.nS y.cS) := HX.out.cell 1
  have c2 : W1.cell? ⟨b, 2, none⟩ = some (.int .i64 y.nx) := HX.out.cell 2
  have hbl := HX.out.lt
  go_upto_region 5 with (first
    | (go_at_call 7; refine (second_do _ y (HT.out _ HBW.out) HY1.out HS.out).mono ?_; rintro e w2 ⟨z, rfl, hb⟩; have H2 := Lib.hid hb; have HX2 := Lib.hid (HX.out.below hb HX.out.lt); have hne : b ≠ w2.heap.size := (by have := HX2.out.lt; omega); clear hb)
    | (refine wpList_store_row rfl 27 _ _ rfl b 27 #[.slice y.AD y.nD y.cD, .slice y.AS y.nS y.cS, .int .i64 y.nx] #[.slice z.AD z.nD z.cD, .slice z.AS 1 z.cS, .int .i64 1] rfl rfl (HX2.out.alloc _) (by show (Tryz.prog.info? 27).map (·.size) = some 3; kernel_rfl) rfl (by simp [Value.oneCell']) ?_)
    | (refine wpList_store_row rfl 37 _ _ rfl w2.heap.size 37 #[.int .i64 0, .int .i64 0, .bool false, .int .i64 0, .string ⟨#[]⟩, .string ⟨#[]⟩] #[.int .i64 0, .int .i64 0, .bool false, .int .i64 0, .string ⟨#[]⟩, .string ⟨#[]⟩] rfl rfl (Sa.box_far (Box.new w2 _ _) (Ne.symm hne) _) (Sa.sizeC cm0) rfl (Sa.oneC cm0) ?_))
  have HX3 := Lib.hid (Sa.box_far (Sa.box_row (HX2.out.alloc (.cells #[.int .i64 0, .int .i64 0, .bool false, .int .i64 0, .string ⟨#[]⟩, .string ⟨#[]⟩] 37)) #[.slice z.AD z.nD z.cD, .slice z.AS 1 z.cS, .int .i64 1]) hne #[.int .i64 0, .int .i64 0, .bool false, .int .i64 0, .string ⟨#[]⟩, .string ⟨#[]⟩])
  have HB3 := Lib.hid (Sa.below_row (Sa.below_row ((HBW.out.trans (H2.out.mono HBW.out.size)).trans ((below_al w2 (.cells #[.int .i64 0, .int .i64 0, .bool false, .int .i64 0, .string ⟨#[]⟩, .string ⟨#[]⟩] 37)).mono (Nat.le_trans HBW.out.size H2.out.size))) (show w.heap.size ≤ b from HLE.out) #[.slice z.AD z.nD z.cD, .slice z.AS 1 z.cS, .int .i64 1]) (Nat.le_trans HBW.out.size H2.out.size) #[.int .i64 0, .int .i64 0, .bool false, .int .i64 0, .string ⟨#[]⟩, .string ⟨#[]⟩])
  clear c0 c1 c2
  generalize ((w2.alloc (.cells #[.int .i64 0, .int .i64 0, .bool false, .int .i64 0, .string ⟨#[]⟩, .string ⟨#[]⟩] 37)).setRow b #[.slice z.AD z.nD z.cD, .slice z.AS 1 z.cS, .int .i64 1]).setRow w2.heap.size #[.int .i64 0, .int .i64 0, .bool false, .int .i64 0, .string ⟨#[]⟩, .string ⟨#[]⟩] = W3 at *
  have c1 : W3.cell? ⟨b, 1, none⟩ = some (.slice z.AS 1 z.cS) := HX3.out.cell 1
  have c2 : W3.cell? ⟨b, 2, none⟩ = some (.int .i64 1) := HX3.out.cell 2
  go_wp2
  go_ret
  exact ⟨rfl, HB3.out⟩
end Go.Proofs.YteejocnogpaifaaGreatDoor.Tt

namespace Go.Proofs.YteejocnogpaifaaGreatDoor.Tt
open Go.Proofs.YteejocnogpaifaaGreatDoor.Df
open Go.Proofs.YteejocnogpaifaaGreatDoor.Sa (Sg Cm cm0)
open Go.Proofs.YteejocnogpaifaaGreatDoor.Co (Ev goodE Mod)

theorem findS_is {l : List Sg} {x : Int} {i : Nat} (h : findS l x = (i : Int)) : ∃ s, l[i]? = some s ∧ s.id = x := by
  rcases idx_cases (numbered x) l with ⟨h1, _⟩ | ⟨j, s, h1, hs, hp, _⟩
  · unfold findS at h; omega
  · unfold findS at h
    have : j = i := by omega
    subst this
    exact ⟨s, hs, of_decide_eq_true hp⟩
theorem findS_nat {l : List Sg} {x : Int} (h : ¬ findS l x < 0) : ∃ i : Nat, findS l x = (i : Int) := ⟨(findS l x).toNat, by omega⟩
/-- what an event leaves -/
structure Grown (x y : Ms) (v : Ev) (e : Int) : Prop where
  up : e = 0 → v.k = 1 → y.nx = x.nx + 1
  same : ¬ (e = 0 ∧ v.k = 1) → y.nx = x.nx
  len : x.ds.length ≤ y.ds.length
  ds : ∀ d ∈ x.ds, d ∈ y.ds
  gs : ∀ s ∈ x.gs, s.id ≠ v.sg → s ∈ y.gs
  few : y.gs.length ≤ x.gs.length + 1
theorem grown_same {x : Ms} {v : Ev} {e : Int} (h : ¬ (e = 0 ∧ v.k = 1)) : Grown x x v e := ⟨fun h1 h2 => absurd ⟨h1, h2⟩ h, fun _ => rfl, Nat.le_refl _, fun _ h => h, fun _ h _ => h, Nat.le_succ _⟩
theorem grown_do (x : Ms) (v : Ev) (lim : Int) : Grown x (doS x v lim).1 v (doS x v lim).2.2 := by
  unfold doS
  split
  · exact grown_same (fun h => absurd (show (3 : Int) = 0 from h.1) (by decide))
  · split
    · next hk =>
      show Grown x (defS x v).1 v (defS x v).2
      unfold defS
      split
      · exact grown_same (fun h => by have := h.1; omega)
      · split
        · exact grown_same (fun h => by have := h.1; omega)
        · exact ⟨fun _ h => by omega, fun _ => rfl, by show _ ≤ (insD _ _).length; rw [insD_len]; omega, fun d hd => mem_insD.2 (.inr hd), fun _ h _ => h, Nat.le_succ _⟩
    · split
      · next hk =>
        show Grown x (startS x v lim).1 v (startS x v lim).2
        unfold startS
        split
        · exact grown_same (fun h => by have := h.1; omega)
        · split
          · exact grown_same (fun h => by have := h.1; omega)
          · split
            · exact grown_same (fun h => by have := h.1; omega)
            · exact ⟨fun _ _ => rfl, fun h => absurd ⟨rfl, hk⟩ h, Nat.le_refl _, fun _ h => h, fun s hs _ => List.mem_append_left _ hs, by show (x.gs ++ [_]).length ≤ _; rw [List.length_append]; exact Nat.le_refl _⟩
      · next hk1 =>
        split
        · next hk =>
          show Grown x (forgetS x v.sg).1 v (forgetS x v.sg).2
          unfold forgetS
          split
          · exact grown_same (fun h => hk1 h.2)
          · next hf =>
            split
            · exact grown_same (fun h => hk1 h.2)
            · obtain ⟨i, hi⟩ := findS_nat hf
              obtain ⟨t, ht, htd⟩ := findS_is hi
              refine ⟨fun _ h => absurd h hk1, fun _ => rfl, Nat.le_refl _, fun _ h => h, fun s hs hne => ?_, ?_⟩
              · show s ∈ x.gs.eraseIdx (findS x.gs v.sg).toNat
                rw [hi, Int.toNat_natCast, List.mem_eraseIdx_iff_getElem?]
                obtain ⟨j, hj⟩ := List.mem_iff_getElem?.1 hs
                refine ⟨j, fun e => ?_, hj⟩
                rw [e, ht] at hj
                injection hj with hj
                exact hne (hj ▸ htd)
              · show (x.gs.eraseIdx _).length ≤ _
                have := List.length_eraseIdx_le x.gs (findS x.gs v.sg).toNat
                omega
        · unfold actS
          split
          · exact grown_same (fun h => hk1 h.2)
          · next hf =>
            obtain ⟨i, hi⟩ := findS_nat hf
            obtain ⟨t, ht, htd⟩ := findS_is hi
            refine ⟨fun _ h => absurd h hk1, fun _ => rfl, Nat.le_refl _, fun _ h => h, fun s hs hne => ?_, ?_⟩
            · show s ∈ x.gs.set (findS x.gs v.sg).toNat _
              rw [hi, Int.toNat_natCast]
              obtain ⟨j, hj⟩ := List.mem_iff_getElem?.1 hs
              have hij : i ≠ j := fun e => by
                rw [← e, ht] at hj
                injection hj with hj
                exact hne (hj ▸ htd)
              exact List.mem_iff_getElem?.2 ⟨j, by rw [List.getElem?_set_ne hij]; exact hj⟩
            · show (x.gs.set _ _).length ≤ _
              rw [List.length_set]
              omega
/-- a definition is found where it stands; a saga that the event doesn't name too -/
theorem stays_ds {x : Ms} {v : Ev} {lim : Int} (h : Inv x) (hm : Mod v.dn v.ss) {d : Dm} (hd : d ∈ x.ds) : ∃ i : Nat, findD (doS x v lim).1.ds d.nm = (i : Int) ∧ (doS x v lim).1.ds[i]? = some d :=
  findD_mem (inv_do h hm).ok.ds.rise ((grown_do x v lim).ds d hd)
theorem stays_gs {x : Ms} {v : Ev} {lim : Int} (h : Inv x) (hm : Mod v.dn v.ss) {s : Sg} (hs : s ∈ x.gs) (hn : s.id ≠ v.sg) : ∃ i : Nat, findS (doS x v lim).1.gs s.id = (i : Int) ∧ (doS x v lim).1.gs[i]? = some s := by
  obtain ⟨i, hi⟩ := List.mem_iff_getElem?.1 ((grown_do x v lim).gs s hs hn)
  exact ⟨i, findS_at (inv_do h hm).ok.rise hi, hi⟩
end Go.Proofs.YteejocnogpaifaaGreatDoor.Tt

namespace Go.Proofs.YteejocnogpaifaaGreatDoor
open Go
variable {H : Type} {enc : TypeId × Value → H}

theorem returns_both {a : Assume} {C : Checked} {os : Os} {f : FuncId} {fn : Func} {s : ChangeSpec} {conds : List PathCond} {apart fresh handsOn again : Bool} {X : World → Array Value → Prop}
    (hX : ∀ (w w' : World) (args : Array Value), w.heap = w'.heap → X w args → X w' args)
    (own : ownKnob C.prog.godebug = none) (started : os.Started) (noInit : C.prog.inits.idxOf? f = none) (hfn : C.prog.funcs[f]? = some fn)
    (witness : ∃ (w : World) (tape : Tape) (i : Input), w.os = os ∧ (w.forCall tape i).Shaped C.prog ∧ i.vars = [] ∧ Input.okWide C.prog (w.forCall tape i) .any w.heap.size f i ∧
      ((s.pre enc C.prog fn conds apart (w.forCall tape i).memory i.args ∧ X (w.forCall tape i).memory i.args) ∧ sizedMet enc C.prog fn (OpenSpec.ofChange s) apart (w.forCall tape i).memory i.args) ∧ a.holds C.prog (lone (Frame.enter C.prog f i.args .normal) [] (w.forCall tape i)))
    (contract : ∀ (W : World) (base : Nat) (args : Array Value) (ds gs : List (DataW H)) (before : List MemPlace),
      (∀ (j : Nat) t v, fn.params[j]? = some t → args[j]? = some v → Value.okWide C.prog W .any base t v) →
      DataW.Whole enc C.prog fn.params.toList s.vars apart W args.toList ds gs before →
      (DataW.weightsEach C.prog (fn.params.toList ++ s.plain.varTypes C.prog) (ds ++ gs)).all (· ≤ reachBytes) = true → X W args → W.ShapedOpen C.prog →
      Calls C.prog f args W fun e W' => ∃ v, e = .returned v ∧ s.post enc C.prog fn apart fresh handsOn again W args v W') :
    ReturnsInHanded a C os f .any (fun w args => (s.pre enc C.prog fn conds apart w args ∧ X w args) ∧ sizedMet enc C.prog fn (OpenSpec.ofChange s) apart w args) (s.post enc C.prog fn apart fresh handsOn again) := by
  refine returnsInHanded_of_calls own started noInit witness ?_
  intro w tape i _ shape _ ok pre _
  obtain ⟨_, _, _, g, hg, _, _, _, _, val⟩ := ok
  obtain rfl : g = fn := Option.some.inj (hg.symm.trans hfn)
  obtain ⟨⟨⟨ds, gs, before, whole, _⟩, met⟩, sized⟩ := pre
  refine (contract _ w.heap.size i.args ds gs before val (DataW.Whole.of_heap (w' := w.forCall tape i) (by rfl) whole) (sized.weights whole) (hX _ _ _ (by rfl) met) shape).mono ?_
  rintro e W' ⟨v, rfl, post⟩
  exact ChangeSpec.post_blind post
end Go.Proofs.YteejocnogpaifaaGreatDoor

namespace Go.Proofs.YteejocnogpaifaaGreatDoor.stateGrows
open Go.Proofs.YteejocnogpaifaaGreatDoor.Tt Go.Proofs.YteejocnogpaifaaGreatDoor.Df Go.Proofs.YteejocnogpaifaaGreatDoor.El
open Go.Proofs.YteejocnogpaifaaGreatDoor.Bo (P Made ret_int ret_bool)
open Go.Proofs.YteejocnogpaifaaGreatDoor.Sa (Sg Cm Rp cm0)
open Go.Proofs.YteejocnogpaifaaGreatDoor.Co (Ev Mod EvIn goodE)
open Go.ChangeShapes Go.WideShapes Go.ChangeAt Go.RowKit Go.Sort
open Go.ChangeMaps (open_string shut_string)

/-- where the state stands -/
structure At (w u : World) (b : Nat) (x : SV) (k : Nat) : Prop where
  bel : Below w.heap.size w u
  box : Box u b 27 x.arr
  sin : SIn u x
  inv : Inv x.st
  few : x.nS ≤ k
  nx : x.nx ≤ (k : Int)
  ge : w.heap.size ≤ b
section
variable {w u u' : World} {b k : Nat} {x : SV}
theorem At.on (h : At w u b x k) (hb : Below u.heap.size u u') : At w u' b x k := ⟨h.bel.trans (hb.mono h.bel.size), h.box.below hb h.box.lt, h.sin.on hb, h.inv, h.few, h.nx, h.ge⟩
theorem At.cs (h : At w u b x k) : u.cell? ⟨b, 0, none⟩ = some (.slice x.AD x.nD x.cD) ∧ u.cell? ⟨b, 1, none⟩ = some (.slice x.AS x.nS x.cS) ∧ u.cell? ⟨b, 2, none⟩ = some (.int .i64 x.nx) := ⟨h.box.cell 0, h.box.cell 1, h.box.cell 2⟩
theorem at_begin (hb : Below w.heap.size w u) : At w (u.alloc (.cells #[.slice none 0 0, .slice none 0 0, .int .i64 0] 27)) u.heap.size sv0 0 :=
  ⟨hb.alloc hb.size _, Box.new u _ _, (sin_0 u).on (below_al u _), inv0, Nat.le_refl _, Int.le_refl _, hb.size⟩
/-- what Do answers of it -/
theorem At.do_any (h : At w u b x k) (hk : k ≤ 40) (v : Ev) (A : Option Addr) (n c : Nat) (lim : Int) (hT : Tab u) (hv : EvIn u v A n c) (h0 : A = none → n = 0 ∧ c = 0) :
    Calls Tryz.prog 7 #[.agg #[.slice x.AD x.nD x.cD, .slice x.AS x.nS x.cS, .int .i64 x.nx], .agg #[.int .i64 v.k, .int .i64 v.now, .int .i64 v.sg, .string v.nm, .int .i64 v.r.sg, .int .i64 v.r.sp, .bool v.r.un, .int .i64 v.r.tr, .bool v.r.good, .string v.dn, .int .i64 v.dl, .slice A n c], .int .i64 lim] u (DoIs u x v lim) :=
  do_any16 x v A n c lim u h.sin h.inv (by have := h.few; omega) hv h0 hT
theorem at_next {v : Ev} {lim : Int} {y : SV} {R : Nat} (h : At w u b x k) (hm : Mod v.dn v.ss) (hy : y.st = (doS x.st v lim).1) (ho : SOwn u R y) (hR : b < R) : At w (u.setRow b y.arr) b y (k + 1) := by
  have hg := grown_do x.st v lim
  rw [← hy] at hg
  have hfew : y.gs.length ≤ x.gs.length + 1 := hg.few
  have h1 := h.sin.lS
  have h2 := ho.lS
  have h3 := h.few
  have h4 := h.nx
  refine ⟨Sa.below_row h.bel h.ge _, Sa.box_row h.box _, (ho.stay fun i hi _ => setRow_other u b i _ (by omega)).sin, ?_, by omega, ?_, h.ge⟩
  · rw [hy]; exact inv_do h.inv hm
  · by_cases hq : (doS x.st v lim).2.2 = 0 ∧ v.k = 1
    · have : y.nx = x.nx + 1 := hg.up hq.1 hq.2
      omega
    · have : y.nx = x.nx := hg.same hq
      omega
theorem neq_self (s : Sg) (W : World) : (binOp .neq 49 (.agg #[.int .i64 s.id, .string s.dn, .int .i64 s.st, .int .i64 s.ph, .int .i64 s.sp, .int .i64 s.tr, .bool s.out, .int .i64 s.at_, .int .i64 s.sk]) (.agg #[.int .i64 s.id, .string s.dn, .int .i64 s.st, .int .i64 s.ph, .int .i64 s.sp, .int .i64 s.tr, .bool s.out, .int .i64 s.at_, .int .i64 s.sk])).run Tryz.prog W = .ok (.bool false) W := by
  have e := Sa.neq_saga s s W
  rw [Sa.eqG_self] at e
  exact e
end
section
variable {B n g R : Nat} {W0 W : World} {o : Obj} {cs : Array Value} {t : TypeId} {y : SV}
theorem below_is (h : (fun u => Below W0.heap.size W0 u) W) : Below W0.heap.size W0 W := h
theorem slot_new (_h : (fun u => Below W0.heap.size W0 u) (W.alloc (.cells cs t))) (hs : cs.size = n) : Sa.Slot (W.alloc (.cells cs t)) W.heap.size t n := Sa.Box.slot (Box.new W t cs) hs
theorem slot_more (_h : (fun u => Below W0.heap.size W0 u) (W.alloc o)) (h : Sa.Slot W g t n) : Sa.Slot (W.alloc o) g t n := Sa.slot_on h (below_al W o)
theorem own_more (_h : (fun u => Below W0.heap.size W0 u) (W.alloc o)) (h : SOwn W R y) : SOwn (W.alloc o) R y := h.below (below_al W o)
/-- a block of another type turns: the rows stay -/
theorem own_off {b : Nat} {cs' : Array Value} (h : SOwn W R y) (hb : Box W b t cs) (h2 : t ≠ 33) (h3 : t ≠ 49) (h4 : t ≠ 54) : SOwn (W.setRow b cs') R y := by
  have hs : ∀ {e : TypeId} {k n : Nat} {v : Value} {xs : List Value}, t ≠ e → W.ownsRow R e k v n xs → (W.setRow b cs').ownsRow R e k v n xs := fun he ho =>
    own_stay ho fun i hi => setRow_other W b i cs' fun e => by
      obtain ⟨_, cur, hc⟩ := own_blk ho hi
      subst e
      exact (hb.apart hc he) rfl
  exact ⟨h.lD, h.lS, hs h2 h.oD, hs h3 h.oS, fun d hd => ⟨(h.oT d hd).1, (h.oT d hd).2.1, hs h4 (h.oT d hd).2.2⟩⟩
theorem own_slots {b b' : Nat} {cs' cs2 : Array Value} (h : SOwn W R y) (hb : Sa.Slot W b 27 n) (hb' : Sa.Slot W b' 37 B) (hne : b' ≠ b) : SOwn ((W.setRow b cs').setRow b' cs2) R y := by
  obtain ⟨c1, hc1, _⟩ := hb
  obtain ⟨c2, hc2, _⟩ := hb'
  exact own_off (own_off h hc1 (by decide) (by decide) (by decide)) (Sa.box_far hc2 hne _) (by decide) (by decide) (by decide)
end
set_option maxHeartbeats 16000000 in
set_option maxRecDepth 100000 in
theorem walk (LA : Option Addr) (lc : Nat) (l : List EX) (lim : Int) (w : World) (hT : Tab w) (hml : l.length ≤ 9223372036854775807) (hf : ∀ e ∈ l, e.Fits w) (hle : Els EX.cells 12 w w.heap.size LA l) :
    Calls Tryz.prog 4 #[.slice LA l.length lc, .int .i64 lim] w fun e w' => e = .returned (.bool true) ∧ Below w.heap.size w w' := by
  obtain ⟨m, hm⟩ : ∃ m, m = l.length := ⟨_, rfl⟩
  rw [← hm] at hml ⊢
  have HL := Lib.hid hle
  have HM := Lib.hid hm
  have HFT := Lib.hid hf
  have HT := Lib.hid (fun W (hW : Below w.heap.size w W) => tab_below hT hW)
  have HA := Lib.hid (awake16_any w hT)
  clear hle hm hf hT
  by_cases h40 : m ≤ 40
  · have t1 : decide ((40 : Int) < (m : Int)) = false := decide_eq_false (by omega)
    have t2 : decide (40 < m) = false := decide_eq_false (by omega)
    go_enter Tryz.func4, Tryz.ntmps4
    go_upto_region 6 with (go_at_call 5; (with_reducible refine HA.out.mono ?_); rintro e w1 ⟨rfl, hb⟩; have H0 := Lib.hid (at_begin hb); clear hb)
    clear HA
    generalize (w1.alloc _) = W2 at *
    generalize w1.heap.size = b5 at *
    go_upto_region 7 with fail
    go_loopw [6] (fun vi wr => ∃ (k : Nat) (x : SV), vi = .int .i64 (k : Int) ∧ k ≤ m ∧ Hid (At w wr b5 x k)) (fun vi _ => m - (intOf vi).toNat)
    case atStart => exact ⟨0, sv0, rfl, Nat.zero_le _, H0⟩
    case round =>
      clear H0
      obtain ⟨k, x, rfl, hk, HW⟩ := hrel
      by_cases hkm : k < m
      · obtain ⟨a, ha⟩ : ∃ a, l[k]? = some a := ⟨l[k]'(by have := HM.out; omega), List.getElem?_eq_getElem _⟩
        obtain ⟨b, o, hLA, hbw, hac⟩ := HL.out k a ha
        subst hLA
        have HFA := Lib.hid (HFT.out a (List.mem_of_getElem? ha))
        obtain ⟨v, A, ac⟩ := a
        obtain ⟨an, han⟩ : ∃ an, an = v.ss.length := ⟨_, rfl⟩
        have HAN := Lib.hid han
        have HAC : Hid (∀ W, Below w.heap.size w W → W.cell? ⟨b, o + k * 12, none⟩ = some (.int .i64 v.k) ∧ W.cell? ⟨b, o + k * 12 + 1, none⟩ = some (.int .i64 v.now) ∧ W.cell? ⟨b, o + k * 12 + 2, none⟩ = some (.int .i64 v.sg) ∧ W.cell? ⟨b, o + k * 12 + 3, none⟩ = some (.string v.nm) ∧ W.cell? ⟨b, o + k * 12 + 4, none⟩ = some (.int .i64 v.r.sg) ∧ W.cell? ⟨b, o + k * 12 + 5, none⟩ = some (.int .i64 v.r.sp) ∧ W.cell? ⟨b, o + k * 12 + 6, none⟩ = some (.bool v.r.un) ∧ W.cell? ⟨b, o + k * 12 + 7, none⟩ = some (.int .i64 v.r.tr) ∧ W.cell? ⟨b, o + k * 12 + 8, none⟩ = some (.bool v.r.good) ∧ W.cell? ⟨b, o + k * 12 + 9, none⟩ = some (.string v.dn) ∧ W.cell? ⟨b, o + k * 12 + 10, none⟩ = some (.int .i64 v.dl) ∧ W.cell? ⟨b, o + k * 12 + 11, none⟩ = some (.slice A an ac)) := Lib.hid fun W hW => ⟨(hW.cell (p := ⟨b, o + k * 12, none⟩) hbw).trans (hac 0 _ rfl), (hW.cell (p := ⟨b, o + k * 12 + 1, none⟩) hbw).trans (hac 1 _ rfl), (hW.cell (p := ⟨b, o + k * 12 + 2, none⟩) hbw).trans (hac 2 _ rfl), (hW.cell (p := ⟨b, o + k * 12 + 3, none⟩) hbw).trans (hac 3 _ rfl), (hW.cell (p := ⟨b, o + k * 12 + 4, none⟩) hbw).trans (hac 4 _ rfl), (hW.cell (p := ⟨b, o + k * 12 + 5, none⟩) hbw).trans (hac 5 _ rfl), (hW.cell (p := ⟨b, o + k * 12 + 6, none⟩) hbw).trans (hac 6 _ rfl), (hW.cell (p := ⟨b, o + k * 12 + 7, none⟩) hbw).trans (hac 7 _ rfl), (hW.cell (p := ⟨b, o + k * 12 + 8, none⟩) hbw).trans (hac 8 _ rfl), (hW.cell (p := ⟨b, o + k * 12 + 9, none⟩) hbw).trans (hac 9 _ rfl), (hW.cell (p := ⟨b, o + k * 12 + 10, none⟩) hbw).trans (hac 10 _ rfl), (hW.cell (p := ⟨b, o + k * 12 + 11, none⟩) hbw).trans (by rw [han]; exact hac 11 _ rfl)⟩
        have HSH : Hid (∀ W, Below w.heap.size w W → Calls Tryz.prog 6 #[.agg #[.int .i64 v.k, .int .i64 v.now, .int .i64 v.sg, .string v.nm, .int .i64 v.r.sg, .int .i64 v.r.sp, .bool v.r.un, .int .i64 v.r.tr, .bool v.r.good, .string v.dn, .int .i64 v.dl, .slice A an ac]] W fun e w' => e = .returned (.int .i64 (shortI v)) ∧ Below W.heap.size W w') := Lib.hid fun W hW => short_any ⟨v, A, ac⟩ an han W (HFA.out.on hW)
        clear ha hac han
        obtain ⟨e0, e1, e2, e3, e4, e5, e6, e7, e8, e9, e10, e11⟩ := HAC.out wr HW.out.bel
        by_cases hs : shortI v = 0
        · rw [hs] at HSH
          obtain ⟨hmod, hnm⟩ := short_mod hs
          have HMD := Lib.hid hmod
          have HDO := Lib.hid (fun W (hW : Below wr.heap.size wr W) => (HW.out.on hW).do_any (by omega) v A an ac lim (HT.out W (HW.out.bel.trans (hW.mono HW.out.bel.size))) ⟨HAN.out, by rw [HAN.out]; exact HFA.out.cap, hmod, hnm, (HFA.out.on (HW.out.bel.trans (hW.mono HW.out.bel.size))).mem⟩ (by rw [HAN.out]; exact HFA.out.nil))
          have HGW := Lib.hid (grown_do x.st v lim)
          have HSD := Lib.hid (fun (d : Dm) (hd : d ∈ x.st.ds) => stays_ds (lim := lim) HW.out.inv hmod hd)
          have HSG := Lib.hid (fun (s : Sg) (hs : s ∈ x.st.gs) hn => stays_gs (lim := lim) HW.out.inv hmod hs hn)
          have HNX := Lib.hid (fun (u : World) (y : SV) (R : Nat) (h : At w u b5 x k) => at_next (R := R) (y := y) (v := v) (lim := lim) h hmod)
          have HIY := Lib.hid (inv_do (lim := lim) HW.out.inv hmod)
          unfold DoIs at HDO
          generalize doS x.st v lim = Y at *
          obtain ⟨Y1, C, er⟩ := Y
          dsimp only at HDO HGW HSD HSG HNX HIY
          clear hs hmod hnm HFA
          go_upto_region 11 with (go_at_call 6; (with_reducible refine (HSH.out _ HW.out.bel).mono ?_); rintro e W3 ⟨rfl, hb⟩; have H3 := Lib.hid (HW.out.on hb); have HB3 := Lib.hid hb; clear hb)
          clear e0 e1 e2 e3 e4 e5 e6 e7 e8 e9 e10 e11 HSH
          have hwW := H3.out.bel
          have hwB := hwW.size
          have hb5 : b5 < W3.heap.size := H3.out.box.lt
          have HD : Hid (∀ W, Below W3.heap.size W3 W → Calls Tryz.prog 7 #[.agg #[.slice x.AD x.nD x.cD, .slice x.AS x.nS x.cS, .int .i64 x.nx], .agg #[.int .i64 v.k, .int .i64 v.now, .int .i64 v.sg, .string v.nm, .int .i64 v.r.sg, .int .i64 v.r.sp, .bool v.r.un, .int .i64 v.r.tr, .bool v.r.good, .string v.dn, .int .i64 v.dl, .slice A an ac], .int .i64 lim] W fun e w' => ∃ y : SV, e = .returned (.tuple #[.agg y.arr, .agg C.arr, .int .i64 er]) ∧ SOwn w' W.heap.size y ∧ y.st = Y1 ∧ Below W.heap.size W w') := Lib.hid fun W hW => HDO.out W (HB3.out.trans (hW.mono HB3.out.size))
          clear HDO
          go_cut [7, 8, 9] (fun v1 v2 v3 wc => ∃ (g7 g8 : Nat) (y : SV), v1 = .pointer (some ⟨g7, 0, none⟩) ∧ v2 = .pointer (some ⟨g8, 0, none⟩) ∧ v3 = .int .i64 er ∧ Hid (Below W3.heap.size W3 wc ∧ Box wc g7 27 y.arr ∧ (∃ R, SOwn wc R y ∧ b5 < R) ∧ y.st = Y1 ∧ b5 < g7))
          case first => as_aux_lemma =>
            have u0 : ∀ u, Below W3.heap.size W3 u → u.cell? ⟨b5, 0, none⟩ = some (.slice x.AD x.nD x.cD) := fun u H => (H.cell (p := ⟨b5, 0, none⟩) hb5).trans (H3.out.box.cell 0)
            have u1 : ∀ u, Below W3.heap.size W3 u → u.cell? ⟨b5, 1, none⟩ = some (.slice x.AS x.nS x.cS) := fun u H => (H.cell (p := ⟨b5, 1, none⟩) hb5).trans (H3.out.box.cell 1)
            have u2 : ∀ u, Below W3.heap.size W3 u → u.cell? ⟨b5, 2, none⟩ = some (.int .i64 x.nx) := fun u H => (H.cell (p := ⟨b5, 2, none⟩) hb5).trans (H3.out.box.cell 2)
            obtain ⟨e0, e1, e2, e3, e4, e5, e6, e7, e8, e9, e10, e11⟩ := HAC.out W3 H3.out.bel
            have a0 : ∀ u, Below W3.heap.size W3 u → u.cell? ⟨b, o + k * 12, none⟩ = some (.int .i64 v.k) := fun u H => (H.cell (p := ⟨b, o + k * 12, none⟩) (show b < W3.heap.size from Nat.lt_of_lt_of_le hbw H3.out.bel.size)).trans e0
            have a1 : ∀ u, Below W3.heap.size W3 u → u.cell? ⟨b, o + k * 12 + 1, none⟩ = some (.int .i64 v.now) := fun u H => (H.cell (p := ⟨b, o + k * 12 + 1, none⟩) (show b < W3.heap.size from Nat.lt_of_lt_of_le hbw H3.out.bel.size)).trans e1
            have a2 : ∀ u, Below W3.heap.size W3 u → u.cell? ⟨b, o + k * 12 + 2, none⟩ = some (.int .i64 v.sg) := fun u H => (H.cell (p := ⟨b, o + k * 12 + 2, none⟩) (show b < W3.heap.size from Nat.lt_of_lt_of_le hbw H3.out.bel.size)).trans e2
            have a3 : ∀ u, Below W3.heap.size W3 u → u.cell? ⟨b, o + k * 12 + 3, none⟩ = some (.string v.nm) := fun u H => (H.cell (p := ⟨b, o + k * 12 + 3, none⟩) (show b < W3.heap.size from Nat.lt_of_lt_of_le hbw H3.out.bel.size)).trans e3
            have a4 : ∀ u, Below W3.heap.size W3 u → u.cell? ⟨b, o + k * 12 + 4, none⟩ = some (.int .i64 v.r.sg) := fun u H => (H.cell (p := ⟨b, o + k * 12 + 4, none⟩) (show b < W3.heap.size from Nat.lt_of_lt_of_le hbw H3.out.bel.size)).trans e4
            have a5 : ∀ u, Below W3.heap.size W3 u → u.cell? ⟨b, o + k * 12 + 5, none⟩ = some (.int .i64 v.r.sp) := fun u H => (H.cell (p := ⟨b, o + k * 12 + 5, none⟩) (show b < W3.heap.size from Nat.lt_of_lt_of_le hbw H3.out.bel.size)).trans e5
            have a6 : ∀ u, Below W3.heap.size W3 u → u.cell? ⟨b, o + k * 12 + 6, none⟩ = some (.bool v.r.un) := fun u H => (H.cell (p := ⟨b, o + k * 12 + 6, none⟩) (show b < W3.heap.size from Nat.lt_of_lt_of_le hbw H3.out.bel.size)).trans e6
            have a7 : ∀ u, Below W3.heap.size W3 u → u.cell? ⟨b, o + k * 12 + 7, none⟩ = some (.int .i64 v.r.tr) := fun u H => (H.cell (p := ⟨b, o + k * 12 + 7, none⟩) (show b < W3.heap.size from Nat.lt_of_lt_of_le hbw H3.out.bel.size)).trans e7
            have a8 : ∀ u, Below W3.heap.size W3 u → u.cell? ⟨b, o + k * 12 + 8, none⟩ = some (.bool v.r.good) := fun u H => (H.cell (p := ⟨b, o + k * 12 + 8, none⟩) (show b < W3.heap.size from Nat.lt_of_lt_of_le hbw H3.out.bel.size)).trans e8
            have a9 : ∀ u, Below W3.heap.size W3 u → u.cell? ⟨b, o + k * 12 + 9, none⟩ = some (.string v.dn) := fun u H => (H.cell (p := ⟨b, o + k * 12 + 9, none⟩) (show b < W3.heap.size from Nat.lt_of_lt_of_le hbw H3.out.bel.size)).trans e9
            have a10 : ∀ u, Below W3.heap.size W3 u → u.cell? ⟨b, o + k * 12 + 10, none⟩ = some (.int .i64 v.dl) := fun u H => (H.cell (p := ⟨b, o + k * 12 + 10, none⟩) (show b < W3.heap.size from Nat.lt_of_lt_of_le hbw H3.out.bel.size)).trans e10
            have a11 : ∀ u, Below W3.heap.size W3 u → u.cell? ⟨b, o + k * 12 + 11, none⟩ = some (.slice A an ac) := fun u H => (H.cell (p := ⟨b, o + k * 12 + 11, none⟩) (show b < W3.heap.size from Nat.lt_of_lt_of_le hbw H3.out.bel.size)).trans e11
            clear e0 e1 e2 e3 e4 e5 e6 e7 e8 e9 e10 e11
            have bd0 : Hid (Below W3.heap.size W3 W3.drew) := Lib.hid (Below.drew (Below.refl _ _))
            refine wp_region_held_drew (S := fun u => Below W3.heap.size W3 u) (by kernel_rfl) bd0.out (fun hHeld => ?_)
            generalize W3.drew = V0 at *
            refine wpAnyH_take (i := 0) (oi := ⟨some 35, _, _, _, _, _⟩) (v := ?_) rfl (by kernel_rfl) (by kernel_rfl) (by kernel_rfl) (fun _ _ _ h => h) (Or.inl ⟨by rfl, ?_⟩) (by assumption) ?_
            rotate_left
            · (intro u hu; (try dsimp only at hu); go_simp; (try with_reducible rfl))
            (try simp only [Act.put, List.setIfInBounds_toArray, List.set_cons_zero, List.set_cons_succ])
            refine wpAnyH_take (i := 1) (oi := ⟨some 36, _, _, _, _, _⟩) (v := ?_) rfl (by kernel_rfl) (by kernel_rfl) (by kernel_rfl) (fun _ _ _ h => h) (Or.inl ⟨by rfl, ?_⟩) (by assumption) ?_
            rotate_left
            · (intro u hu; (try dsimp only at hu); go_simp; (try with_reducible rfl))
            (try simp only [Act.put, List.setIfInBounds_toArray, List.set_cons_zero, List.set_cons_succ])
            refine wpAnyH_take (i := 2) (oi := ⟨some 37, _, _, _, _, _⟩) (v := ?_) rfl (by kernel_rfl) (by kernel_rfl) (by kernel_rfl) (fun _ _ _ h => h) (Or.inl ⟨by rfl, ?_⟩) (by assumption) ?_
            rotate_left
            · (intro u hu; (try dsimp only at hu); go_simp; (try with_reducible rfl))
            (try simp only [Act.put, List.setIfInBounds_toArray, List.set_cons_zero, List.set_cons_succ])
            refine wpAnyH_take (i := 3) (oi := ⟨some 38, _, _, _, _, _⟩) (v := ?_) rfl (by kernel_rfl) (by kernel_rfl) (by kernel_rfl) (fun _ _ _ h => h) (Or.inl ⟨by rfl, ?_⟩) (by assumption) ?_
            rotate_left
            · (intro u hu; (try dsimp only at hu); go_simp; (try with_reducible rfl))
            (try simp only [Act.put, List.setIfInBounds_toArray, List.set_cons_zero, List.set_cons_succ])
            refine wpAnyH_take (i := 4) (oi := ⟨some 39, _, _, _, _, _⟩) (v := ?_) rfl (by kernel_rfl) (by kernel_rfl) (by kernel_rfl) (fun _ _ _ h => h) (Or.inl ⟨by rfl, ?_⟩) (by assumption) ?_
            rotate_left
            · (intro u hu; (try dsimp only at hu); go_simp; (try with_reducible rfl))
            (try simp only [Act.put, List.setIfInBounds_toArray, List.set_cons_zero, List.set_cons_succ])
            refine wpAnyH_take (i := 5) (oi := ⟨some 40, _, _, _, _, _⟩) (v := ?_) rfl (by kernel_rfl) (by kernel_rfl) (by kernel_rfl) (fun _ _ _ h => h) (Or.inl ⟨by rfl, ?_⟩) (by assumption) ?_
            rotate_left
            · (intro u hu; (try dsimp only at hu); go_simp; (try with_reducible rfl))
            (try simp only [Act.put, List.setIfInBounds_toArray, List.set_cons_zero, List.set_cons_succ])
            refine wpAnyH_ready (rs := [6, 11, 12]) (by decide +kernel) (by simp) ?_
            refine AllReadyH.cons (o := ⟨some 41, _, _, _, _, _⟩) rfl (fun K hK => ?_) (AllReadyH.cons (o := ⟨some 7, _, _, _, _, _⟩) rfl (fun K hK => ?_) (AllReadyH.cons (o := ⟨some 8, _, _, _, _, _⟩) rfl (fun K hK => ?_) AllReadyH.nil))
            · as_aux_lemma =>
                have ersz := bd0.out.size
                go_simp
                (with_reducible refine (HD.out _ ((bd0.out.mono (Nat.le_refl _)))).mono ?_)
                rintro e v1 ⟨y, rfl, ho, hst, hb⟩
                have bd1 := Lib.hid (bd0.out.trans (hb.mono bd0.out.size))
                have ow1 := Lib.hid ho
                have HST := Lib.hid hst
                clear ho hst
                have hs1 := hb.size
                clear hb
                go_wp2_with fail
                refine hK.out _ _ ?_ (fun hHeld => ?_)
                · exact bd1.out
                clear hK K
                (try simp only [Act.put, List.setIfInBounds_toArray, List.set_cons_zero, List.set_cons_succ])
                refine wpAnyH_take (i := 7) (oi := ⟨some 34, _, _, _, _, _⟩) (v := ?_) rfl (by kernel_rfl) (by kernel_rfl) (by kernel_rfl) (fun _ _ _ h => h) (Or.inl ⟨by rfl, ?_⟩) (by assumption) ?_
                rotate_left
                · (intro u hu; (try dsimp only at hu); go_simp; (try with_reducible rfl))
                (try simp only [Act.put, List.setIfInBounds_toArray, List.set_cons_zero, List.set_cons_succ])
                refine wpAnyH_take (i := 8) (oi := ⟨some 42, _, _, _, _, _⟩) (v := ?_) rfl (by kernel_rfl) (by kernel_rfl) (by kernel_rfl) (fun _ _ _ h => h) (Or.inl ⟨by rfl, ?_⟩) (by assumption) ?_
                rotate_left
                · (intro u hu; (try dsimp only at hu); go_simp; (try with_reducible rfl))
                (try simp only [Act.put, List.setIfInBounds_toArray, List.set_cons_zero, List.set_cons_succ])
                refine wpAnyH_take (i := 9) (oi := ⟨some 43, _, _, _, _, _⟩) (v := ?_) rfl (by kernel_rfl) (by kernel_rfl) (by kernel_rfl) (fun _ _ _ h => h) (Or.inl ⟨by rfl, ?_⟩) (by assumption) ?_
                rotate_left
                · (intro u hu; (try dsimp only at hu); go_simp; (try with_reducible rfl))
                (try simp only [Act.put, List.setIfInBounds_toArray, List.set_cons_zero, List.set_cons_succ])
                refine wpAnyH_take (i := 10) (oi := ⟨some 44, _, _, _, _, _⟩) (v := ?_) rfl (by kernel_rfl) (by kernel_rfl) (by kernel_rfl) (fun _ _ _ h => h) (Or.inl ⟨by rfl, ?_⟩) (by assumption) ?_
                rotate_left
                · (intro u hu; (try dsimp only at hu); go_simp; (try with_reducible rfl))
                (try simp only [Act.put, List.setIfInBounds_toArray, List.set_cons_zero, List.set_cons_succ])
                refine wpAnyH_ready (rs := [11, 12]) (by decide +kernel) (by simp) ?_
                refine AllReadyH.cons (o := ⟨some 7, _, _, _, _, _⟩) rfl (fun K hK => ?_) (AllReadyH.cons (o := ⟨some 8, _, _, _, _, _⟩) rfl (fun K hK => ?_) AllReadyH.nil)
                · as_aux_lemma =>
                    go_simp
                    refine hK.out _ _ ?_ (fun hHeld => ?_)
                    · exact bd1.out.alloc bd1.out.size _
                    clear hK K
                    (try simp only [Act.put, List.setIfInBounds_toArray, List.set_cons_zero, List.set_cons_succ])
                    have bd2 := Lib.hid (below_is hHeld)
                    have es1 := bd1.out.size
                    have ow2 := Lib.hid (own_more hHeld ow1.out)
                    have q2 : Hid (Sa.Slot _ _ 27 3) := Lib.hid (slot_new hHeld rfl)
                    generalize v1.alloc _ = V2 at *
                    have ls1 := q2.out.lt
                    refine wpAnyH_ready (rs := [12]) (by decide +kernel) (by simp) ?_
                    refine AllReadyH.cons (o := ⟨some 8, _, _, _, _, _⟩) rfl (fun K hK => ?_) AllReadyH.nil
                    · as_aux_lemma =>
                        go_simp
                        refine hK.out _ _ ?_ (fun hHeld => ?_)
                        · exact bd2.out.alloc bd2.out.size _
                        clear hK K
                        (try simp only [Act.put, List.setIfInBounds_toArray, List.set_cons_zero, List.set_cons_succ])
                        have bd3 := Lib.hid (below_is hHeld)
                        have es2 := bd2.out.size
                        have ow3 := Lib.hid (own_more hHeld ow2.out)
                        have k3 : Hid (Sa.Slot _ _ 37 6) := Lib.hid (slot_new hHeld rfl)
                        have q3 := Lib.hid (slot_more hHeld q2.out)
                        generalize V2.alloc _ = V3 at *
                        have ls2 := k3.out.lt
                        refine wpAnyH_ready (rs := [13]) (by decide +kernel) (by simp) ?_
                        refine AllReadyH.cons (o := ⟨none, _, _, _, _, _⟩) rfl (fun K hK => ?_) AllReadyH.nil
                        rw [if_pos (by rfl)]
                        have BE := Sa.row_end bd3.out (show W3.heap.size ≤ v1.heap.size by omega) (y).arr
                        have BF := Sa.row_end BE (show W3.heap.size ≤ V2.heap.size by omega) (C).arr
                        obtain ⟨cs, hcs, hsz⟩ := q3.out
                        refine Sa.oper_store_row 27 _ _ rfl (v1.heap.size) 27 cs (y).arr rfl rfl hcs (sizeT _) hsz (oneT _) ?_
                        refine hK.out _ _ ?_ (fun hHeld => ?_)
                        · exact BE
                        clear hK K hcs hsz
                        (try simp only [Act.put])
                        refine wpAnyH_ready (rs := [14]) (by decide +kernel) (by simp) ?_
                        refine AllReadyH.cons (o := ⟨none, _, _, _, _, _⟩) rfl (fun K hK => ?_) AllReadyH.nil
                        rw [if_pos (by rfl)]
                        have hk2 := Sa.slot_rowfar k3.out (show V2.heap.size ≠ v1.heap.size by omega) (y).arr
                        obtain ⟨cs, hcs, hsz⟩ := hk2
                        refine Sa.oper_store_row 37 _ _ rfl (V2.heap.size) 37 cs (C).arr rfl rfl hcs (Sa.sizeC _) hsz (Sa.oneC _) ?_
                        refine hK.out _ _ ?_ (fun hHeld => ?_)
                        · exact BF
                        clear hK K hcs hsz
                        (try simp only [Act.put])
                        refine wpAnyH_take (i := 15) (oi := ⟨some 9, _, _, _, _, _⟩) (v := ?_) rfl (by kernel_rfl) (by kernel_rfl) (by kernel_rfl) (fun _ _ _ h => h) (Or.inl ⟨by rfl, ?_⟩) (by assumption) ?_
                        rotate_left
                        · (intro u hu; (try dsimp only at hu); go_simp; (try with_reducible rfl))
                        (try simp only [Act.put, List.setIfInBounds_toArray, List.set_cons_zero, List.set_cons_succ])
                        refine wpAnyH_done (by kernel_rfl) ?_ _
                        go_wp2
                        go_meet
                        exact ⟨_, _, y, rfl, rfl, rfl, Lib.hid ⟨BF, Sa.box_far (q3.out.row _) (show v1.heap.size ≠ V2.heap.size by omega) _, ⟨_, own_slots ow3.out q3.out k3.out (show V2.heap.size ≠ v1.heap.size by omega), Nat.lt_of_lt_of_le hb5 ersz⟩, HST.out, show b5 < v1.heap.size by omega⟩⟩
                · as_aux_lemma =>
                    go_simp
                    refine hK.out _ _ ?_ (fun hHeld => ?_)
                    · exact bd1.out.alloc bd1.out.size _
                    clear hK K
                    (try simp only [Act.put, List.setIfInBounds_toArray, List.set_cons_zero, List.set_cons_succ])
                    have bd2 := Lib.hid (below_is hHeld)
                    have es1 := bd1.out.size
                    have ow2 := Lib.hid (own_more hHeld ow1.out)
                    have k2 : Hid (Sa.Slot _ _ 37 6) := Lib.hid (slot_new hHeld rfl)
                    generalize v1.alloc _ = V2 at *
                    have ls1 := k2.out.lt
                    refine wpAnyH_ready (rs := [11]) (by decide +kernel) (by simp) ?_
                    refine AllReadyH.cons (o := ⟨some 7, _, _, _, _, _⟩) rfl (fun K hK => ?_) AllReadyH.nil
                    · as_aux_lemma =>
                        go_simp
                        refine hK.out _ _ ?_ (fun hHeld => ?_)
                        · exact bd2.out.alloc bd2.out.size _
                        clear hK K
                        (try simp only [Act.put, List.setIfInBounds_toArray, List.set_cons_zero, List.set_cons_succ])
                        have bd3 := Lib.hid (below_is hHeld)
                        have es2 := bd2.out.size
                        have ow3 := Lib.hid (own_more hHeld ow2.out)
                        have q3 : Hid (Sa.Slot _ _ 27 3) := Lib.hid (slot_new hHeld rfl)
                        have k3 := Lib.hid (slot_more hHeld k2.out)
                        generalize V2.alloc _ = V3 at *
                        have ls2 := q3.out.lt
                        refine wpAnyH_ready (rs := [13]) (by decide +kernel) (by simp) ?_
                        refine AllReadyH.cons (o := ⟨none, _, _, _, _, _⟩) rfl (fun K hK => ?_) AllReadyH.nil
                        rw [if_pos (by rfl)]
                        have BE := Sa.row_end bd3.out (show W3.heap.size ≤ V2.heap.size by omega) (y).arr
                        have BF := Sa.row_end BE (show W3.heap.size ≤ v1.heap.size by omega) (C).arr
                        obtain ⟨cs, hcs, hsz⟩ := q3.out
                        refine Sa.oper_store_row 27 _ _ rfl (V2.heap.size) 27 cs (y).arr rfl rfl hcs (sizeT _) hsz (oneT _) ?_
                        refine hK.out _ _ ?_ (fun hHeld => ?_)
                        · exact BE
                        clear hK K hcs hsz
                        (try simp only [Act.put])
                        refine wpAnyH_ready (rs := [14]) (by decide +kernel) (by simp) ?_
                        refine AllReadyH.cons (o := ⟨none, _, _, _, _, _⟩) rfl (fun K hK => ?_) AllReadyH.nil
                        rw [if_pos (by rfl)]
                        have hk2 := Sa.slot_rowfar k3.out (show v1.heap.size ≠ V2.heap.size by omega) (y).arr
                        obtain ⟨cs, hcs, hsz⟩ := hk2
                        refine Sa.oper_store_row 37 _ _ rfl (v1.heap.size) 37 cs (C).arr rfl rfl hcs (Sa.sizeC _) hsz (Sa.oneC _) ?_
                        refine hK.out _ _ ?_ (fun hHeld => ?_)
                        · exact BF
                        clear hK K hcs hsz
                        (try simp only [Act.put])
                        refine wpAnyH_take (i := 15) (oi := ⟨some 9, _, _, _, _, _⟩) (v := ?_) rfl (by kernel_rfl) (by kernel_rfl) (by kernel_rfl) (fun _ _ _ h => h) (Or.inl ⟨by rfl, ?_⟩) (by assumption) ?_
                        rotate_left
                        · (intro u hu; (try dsimp only at hu); go_simp; (try with_reducible rfl))
                        (try simp only [Act.put, List.setIfInBounds_toArray, List.set_cons_zero, List.set_cons_succ])
                        refine wpAnyH_done (by kernel_rfl) ?_ _
                        go_wp2
                        go_meet
                        exact ⟨_, _, y, rfl, rfl, rfl, Lib.hid ⟨BF, Sa.box_far (q3.out.row _) (show V2.heap.size ≠ v1.heap.size by omega) _, ⟨_, own_slots ow3.out q3.out k3.out (show v1.heap.size ≠ V2.heap.size by omega), Nat.lt_of_lt_of_le hb5 ersz⟩, HST.out, show b5 < V2.heap.size by omega⟩⟩
            · as_aux_lemma =>
                go_simp
                refine hK.out _ _ ?_ (fun hHeld => ?_)
                · exact bd0.out.alloc bd0.out.size _
                clear hK K
                (try simp only [Act.put, List.setIfInBounds_toArray, List.set_cons_zero, List.set_cons_succ])
                have bd1 := Lib.hid (below_is hHeld)
                have es0 := bd0.out.size
                have q1 : Hid (Sa.Slot _ _ 27 3) := Lib.hid (slot_new hHeld rfl)
                generalize V0.alloc _ = V1 at *
                have ls0 := q1.out.lt
                refine wpAnyH_ready (rs := [6, 12]) (by decide +kernel) (by simp) ?_
                refine AllReadyH.cons (o := ⟨some 41, _, _, _, _, _⟩) rfl (fun K hK => ?_) (AllReadyH.cons (o := ⟨some 8, _, _, _, _, _⟩) rfl (fun K hK => ?_) AllReadyH.nil)
                · as_aux_lemma =>
                    have ersz := bd1.out.size
                    go_simp
                    (with_reducible refine (HD.out _ ((bd1.out.mono (Nat.le_refl _)))).mono ?_)
                    rintro e v1 ⟨y, rfl, ho, hst, hb⟩
                    have bd2 := Lib.hid (bd1.out.trans (hb.mono bd1.out.size))
                    have ow2 := Lib.hid ho
                    have HST := Lib.hid hst
                    clear ho hst
                    have q2 := Lib.hid (Sa.slot_on q1.out hb)
                    have hs2 := hb.size
                    clear hb
                    go_wp2_with fail
                    refine hK.out _ _ ?_ (fun hHeld => ?_)
                    · exact bd2.out
                    clear hK K
                    (try simp only [Act.put, List.setIfInBounds_toArray, List.set_cons_zero, List.set_cons_succ])
                    refine wpAnyH_take (i := 7) (oi := ⟨some 34, _, _, _, _, _⟩) (v := ?_) rfl (by kernel_rfl) (by kernel_rfl) (by kernel_rfl) (fun _ _ _ h => h) (Or.inl ⟨by rfl, ?_⟩) (by assumption) ?_
                    rotate_left
                    · (intro u hu; (try dsimp only at hu); go_simp; (try with_reducible rfl))
                    (try simp only [Act.put, List.setIfInBounds_toArray, List.set_cons_zero, List.set_cons_succ])
                    refine wpAnyH_take (i := 8) (oi := ⟨some 42, _, _, _, _, _⟩) (v := ?_) rfl (by kernel_rfl) (by kernel_rfl) (by kernel_rfl) (fun _ _ _ h => h) (Or.inl ⟨by rfl, ?_⟩) (by assumption) ?_
                    rotate_left
                    · (intro u hu; (try dsimp only at hu); go_simp; (try with_reducible rfl))
                    (try simp only [Act.put, List.setIfInBounds_toArray, List.set_cons_zero, List.set_cons_succ])
                    refine wpAnyH_take (i := 9) (oi := ⟨some 43, _, _, _, _, _⟩) (v := ?_) rfl (by kernel_rfl) (by kernel_rfl) (by kernel_rfl) (fun _ _ _ h => h) (Or.inl ⟨by rfl, ?_⟩) (by assumption) ?_
                    rotate_left
                    · (intro u hu; (try dsimp only at hu); go_simp; (try with_reducible rfl))
                    (try simp only [Act.put, List.setIfInBounds_toArray, List.set_cons_zero, List.set_cons_succ])
                    refine wpAnyH_take (i := 10) (oi := ⟨some 44, _, _, _, _, _⟩) (v := ?_) rfl (by kernel_rfl) (by kernel_rfl) (by kernel_rfl) (fun _ _ _ h => h) (Or.inl ⟨by rfl, ?_⟩) (by assumption) ?_
                    rotate_left
                    · (intro u hu; (try dsimp only at hu); go_simp; (try with_reducible rfl))
                    (try simp only [Act.put, List.setIfInBounds_toArray, List.set_cons_zero, List.set_cons_succ])
                    refine wpAnyH_ready (rs := [12]) (by decide +kernel) (by simp) ?_
                    refine AllReadyH.cons (o := ⟨some 8, _, _, _, _, _⟩) rfl (fun K hK => ?_) AllReadyH.nil
                    · as_aux_lemma =>
                        go_simp
                        refine hK.out _ _ ?_ (fun hHeld => ?_)
                        · exact bd2.out.alloc bd2.out.size _
                        clear hK K
                        (try simp only [Act.put, List.setIfInBounds_toArray, List.set_cons_zero, List.set_cons_succ])
                        have bd3 := Lib.hid (below_is hHeld)
                        have es2 := bd2.out.size
                        have ow3 := Lib.hid (own_more hHeld ow2.out)
                        have k3 : Hid (Sa.Slot _ _ 37 6) := Lib.hid (slot_new hHeld rfl)
                        have q3 := Lib.hid (slot_more hHeld q2.out)
                        generalize v1.alloc _ = V3 at *
                        have ls2 := k3.out.lt
                        refine wpAnyH_ready (rs := [13]) (by decide +kernel) (by simp) ?_
                        refine AllReadyH.cons (o := ⟨none, _, _, _, _, _⟩) rfl (fun K hK => ?_) AllReadyH.nil
                        rw [if_pos (by rfl)]
                        have BE := Sa.row_end bd3.out (show W3.heap.size ≤ V0.heap.size by omega) (y).arr
                        have BF := Sa.row_end BE (show W3.heap.size ≤ v1.heap.size by omega) (C).arr
                        obtain ⟨cs, hcs, hsz⟩ := q3.out
                        refine Sa.oper_store_row 27 _ _ rfl (V0.heap.size) 27 cs (y).arr rfl rfl hcs (sizeT _) hsz (oneT _) ?_
                        refine hK.out _ _ ?_ (fun hHeld => ?_)
                        · exact BE
                        clear hK K hcs hsz
                        (try simp only [Act.put])
                        refine wpAnyH_ready (rs := [14]) (by decide +kernel) (by simp) ?_
                        refine AllReadyH.cons (o := ⟨none, _, _, _, _, _⟩) rfl (fun K hK => ?_) AllReadyH.nil
                        rw [if_pos (by rfl)]
                        have hk2 := Sa.slot_rowfar k3.out (show v1.heap.size ≠ V0.heap.size by omega) (y).arr
                        obtain ⟨cs, hcs, hsz⟩ := hk2
                        refine Sa.oper_store_row 37 _ _ rfl (v1.heap.size) 37 cs (C).arr rfl rfl hcs (Sa.sizeC _) hsz (Sa.oneC _) ?_
                        refine hK.out _ _ ?_ (fun hHeld => ?_)
                        · exact BF
                        clear hK K hcs hsz
                        (try simp only [Act.put])
                        refine wpAnyH_take (i := 15) (oi := ⟨some 9, _, _, _, _, _⟩) (v := ?_) rfl (by kernel_rfl) (by kernel_rfl) (by kernel_rfl) (fun _ _ _ h => h) (Or.inl ⟨by rfl, ?_⟩) (by assumption) ?_
                        rotate_left
                        · (intro u hu; (try dsimp only at hu); go_simp; (try with_reducible rfl))
                        (try simp only [Act.put, List.setIfInBounds_toArray, List.set_cons_zero, List.set_cons_succ])
                        refine wpAnyH_done (by kernel_rfl) ?_ _
                        go_wp2
                        go_meet
                        exact ⟨_, _, y, rfl, rfl, rfl, Lib.hid ⟨BF, Sa.box_far (q3.out.row _) (show V0.heap.size ≠ v1.heap.size by omega) _, ⟨_, own_slots ow3.out q3.out k3.out (show v1.heap.size ≠ V0.heap.size by omega), Nat.lt_of_lt_of_le hb5 ersz⟩, HST.out, show b5 < V0.heap.size by omega⟩⟩
                · as_aux_lemma =>
                    go_simp
                    refine hK.out _ _ ?_ (fun hHeld => ?_)
                    · exact bd1.out.alloc bd1.out.size _
                    clear hK K
                    (try simp only [Act.put, List.setIfInBounds_toArray, List.set_cons_zero, List.set_cons_succ])
                    have bd2 := Lib.hid (below_is hHeld)
                    have es1 := bd1.out.size
                    have k2 : Hid (Sa.Slot _ _ 37 6) := Lib.hid (slot_new hHeld rfl)
                    have q2 := Lib.hid (slot_more hHeld q1.out)
                    generalize V1.alloc _ = V2 at *
                    have ls1 := k2.out.lt
                    refine wpAnyH_ready (rs := [6]) (by decide +kernel) (by simp) ?_
                    refine AllReadyH.cons (o := ⟨some 41, _, _, _, _, _⟩) rfl (fun K hK => ?_) AllReadyH.nil
                    · as_aux_lemma =>
                        have ersz := bd2.out.size
                        go_simp
                        (with_reducible refine (HD.out _ ((bd2.out.mono (Nat.le_refl _)))).mono ?_)
                        rintro e v1 ⟨y, rfl, ho, hst, hb⟩
                        have bd3 := Lib.hid (bd2.out.trans (hb.mono bd2.out.size))
                        have ow3 := Lib.hid ho
                        have HST := Lib.hid hst
                        clear ho hst
                        have q3 := Lib.hid (Sa.slot_on q2.out hb)
                        have k3 := Lib.hid (Sa.slot_on k2.out hb)
                        have hs3 := hb.size
                        clear hb
                        go_wp2_with fail
                        refine hK.out _ _ ?_ (fun hHeld => ?_)
                        · exact bd3.out
                        clear hK K
                        (try simp only [Act.put, List.setIfInBounds_toArray, List.set_cons_zero, List.set_cons_succ])
                        refine wpAnyH_take (i := 7) (oi := ⟨some 34, _, _, _, _, _⟩) (v := ?_) rfl (by kernel_rfl) (by kernel_rfl) (by kernel_rfl) (fun _ _ _ h => h) (Or.inl ⟨by rfl, ?_⟩) (by assumption) ?_
                        rotate_left
                        · (intro u hu; (try dsimp only at hu); go_simp; (try with_reducible rfl))
                        (try simp only [Act.put, List.setIfInBounds_toArray, List.set_cons_zero, List.set_cons_succ])
                        refine wpAnyH_take (i := 8) (oi := ⟨some 42, _, _, _, _, _⟩) (v := ?_) rfl (by kernel_rfl) (by kernel_rfl) (by kernel_rfl) (fun _ _ _ h => h) (Or.inl ⟨by rfl, ?_⟩) (by assumption) ?_
                        rotate_left
                        · (intro u hu; (try dsimp only at hu); go_simp; (try with_reducible rfl))
                        (try simp only [Act.put, List.setIfInBounds_toArray, List.set_cons_zero, List.set_cons_succ])
                        refine wpAnyH_take (i := 9) (oi := ⟨some 43, _, _, _, _, _⟩) (v := ?_) rfl (by kernel_rfl) (by kernel_rfl) (by kernel_rfl) (fun _ _ _ h => h) (Or.inl ⟨by rfl, ?_⟩) (by assumption) ?_
                        rotate_left
                        · (intro u hu; (try dsimp only at hu); go_simp; (try with_reducible rfl))
                        (try simp only [Act.put, List.setIfInBounds_toArray, List.set_cons_zero, List.set_cons_succ])
                        refine wpAnyH_take (i := 10) (oi := ⟨some 44, _, _, _, _, _⟩) (v := ?_) rfl (by kernel_rfl) (by kernel_rfl) (by kernel_rfl) (fun _ _ _ h => h) (Or.inl ⟨by rfl, ?_⟩) (by assumption) ?_
                        rotate_left
                        · (intro u hu; (try dsimp only at hu); go_simp; (try with_reducible rfl))
                        (try simp only [Act.put, List.setIfInBounds_toArray, List.set_cons_zero, List.set_cons_succ])
                        refine wpAnyH_ready (rs := [13]) (by decide +kernel) (by simp) ?_
                        refine AllReadyH.cons (o := ⟨none, _, _, _, _, _⟩) rfl (fun K hK => ?_) AllReadyH.nil
                        rw [if_pos (by rfl)]
                        have BE := Sa.row_end bd3.out (show W3.heap.size ≤ V0.heap.size by omega) (y).arr
                        have BF := Sa.row_end BE (show W3.heap.size ≤ V1.heap.size by omega) (C).arr
                        obtain ⟨cs, hcs, hsz⟩ := q3.out
                        refine Sa.oper_store_row 27 _ _ rfl (V0.heap.size) 27 cs (y).arr rfl rfl hcs (sizeT _) hsz (oneT _) ?_
                        refine hK.out _ _ ?_ (fun hHeld => ?_)
                        · exact BE
                        clear hK K hcs hsz
                        (try simp only [Act.put])
                        refine wpAnyH_ready (rs := [14]) (by decide +kernel) (by simp) ?_
                        refine AllReadyH.cons (o := ⟨none, _, _, _, _, _⟩) rfl (fun K hK => ?_) AllReadyH.nil
                        rw [if_pos (by rfl)]
                        have hk2 := Sa.slot_rowfar k3.out (show V1.heap.size ≠ V0.heap.size by omega) (y).arr
                        obtain ⟨cs, hcs, hsz⟩ := hk2
                        refine Sa.oper_store_row 37 _ _ rfl (V1.heap.size) 37 cs (C).arr rfl rfl hcs (Sa.sizeC _) hsz (Sa.oneC _) ?_
                        refine hK.out _ _ ?_ (fun hHeld => ?_)
                        · exact BF
                        clear hK K hcs hsz
                        (try simp only [Act.put])
                        refine wpAnyH_take (i := 15) (oi := ⟨some 9, _, _, _, _, _⟩) (v := ?_) rfl (by kernel_rfl) (by kernel_rfl) (by kernel_rfl) (fun _ _ _ h => h) (Or.inl ⟨by rfl, ?_⟩) (by assumption) ?_
                        rotate_left
                        · (intro u hu; (try dsimp only at hu); go_simp; (try with_reducible rfl))
                        (try simp only [Act.put, List.setIfInBounds_toArray, List.set_cons_zero, List.set_cons_succ])
                        refine wpAnyH_done (by kernel_rfl) ?_ _
                        go_wp2
                        go_meet
                        exact ⟨_, _, y, rfl, rfl, rfl, Lib.hid ⟨BF, Sa.box_far (q3.out.row _) (show V0.heap.size ≠ V1.heap.size by omega) _, ⟨_, own_slots ow3.out q3.out k3.out (show V1.heap.size ≠ V0.heap.size by omega), Nat.lt_of_lt_of_le hb5 ersz⟩, HST.out, show b5 < V0.heap.size by omega⟩⟩
            · as_aux_lemma =>
                go_simp
                refine hK.out _ _ ?_ (fun hHeld => ?_)
                · exact bd0.out.alloc bd0.out.size _
                clear hK K
                (try simp only [Act.put, List.setIfInBounds_toArray, List.set_cons_zero, List.set_cons_succ])
                have bd1 := Lib.hid (below_is hHeld)
                have es0 := bd0.out.size
                have k1 : Hid (Sa.Slot _ _ 37 6) := Lib.hid (slot_new hHeld rfl)
                generalize V0.alloc _ = V1 at *
                have ls0 := k1.out.lt
                refine wpAnyH_ready (rs := [6, 11]) (by decide +kernel) (by simp) ?_
                refine AllReadyH.cons (o := ⟨some 41, _, _, _, _, _⟩) rfl (fun K hK => ?_) (AllReadyH.cons (o := ⟨some 7, _, _, _, _, _⟩) rfl (fun K hK => ?_) AllReadyH.nil)
                · as_aux_lemma =>
                    have ersz := bd1.out.size
                    go_simp
                    (with_reducible refine (HD.out _ ((bd1.out.mono (Nat.le_refl _)))).mono ?_)
                    rintro e v1 ⟨y, rfl, ho, hst, hb⟩
                    have bd2 := Lib.hid (bd1.out.trans (hb.mono bd1.out.size))
                    have ow2 := Lib.hid ho
                    have HST := Lib.hid hst
                    clear ho hst
                    have k2 := Lib.hid (Sa.slot_on k1.out hb)
                    have hs2 := hb.size
                    clear hb
                    go_wp2_with fail
                    refine hK.out _ _ ?_ (fun hHeld => ?_)
                    · exact bd2.out
                    clear hK K
                    (try simp only [Act.put, List.setIfInBounds_toArray, List.set_cons_zero, List.set_cons_succ])
                    refine wpAnyH_take (i := 7) (oi := ⟨some 34, _, _, _, _, _⟩) (v := ?_) rfl (by kernel_rfl) (by kernel_rfl) (by kernel_rfl) (fun _ _ _ h => h) (Or.inl ⟨by rfl, ?_⟩) (by assumption) ?_
                    rotate_left
                    · (intro u hu; (try dsimp only at hu); go_simp; (try with_reducible rfl))
                    (try simp only [Act.put, List.setIfInBounds_toArray, List.set_cons_zero, List.set_cons_succ])
                    refine wpAnyH_take (i := 8) (oi := ⟨some 42, _, _, _, _, _⟩) (v := ?_) rfl (by kernel_rfl) (by kernel_rfl) (by kernel_rfl) (fun _ _ _ h => h) (Or.inl ⟨by rfl, ?_⟩) (by assumption) ?_
                    rotate_left
                    · (intro u hu; (try dsimp only at hu); go_simp; (try with_reducible rfl))
                    (try simp only [Act.put, List.setIfInBounds_toArray, List.set_cons_zero, List.set_cons_succ])
                    refine wpAnyH_take (i := 9) (oi := ⟨some 43, _, _, _, _, _⟩) (v := ?_) rfl (by kernel_rfl) (by kernel_rfl) (by kernel_rfl) (fun _ _ _ h => h) (Or.inl ⟨by rfl, ?_⟩) (by assumption) ?_
                    rotate_left
                    · (intro u hu; (try dsimp only at hu); go_simp; (try with_reducible rfl))
                    (try simp only [Act.put, List.setIfInBounds_toArray, List.set_cons_zero, List.set_cons_succ])
                    refine wpAnyH_take (i := 10) (oi := ⟨some 44, _, _, _, _, _⟩) (v := ?_) rfl (by kernel_rfl) (by kernel_rfl) (by kernel_rfl) (fun _ _ _ h => h) (Or.inl ⟨by rfl, ?_⟩) (by assumption) ?_
                    rotate_left
                    · (intro u hu; (try dsimp only at hu); go_simp; (try with_reducible rfl))
                    (try simp only [Act.put, List.setIfInBounds_toArray, List.set_cons_zero, List.set_cons_succ])
                    refine wpAnyH_ready (rs := [11]) (by decide +kernel) (by simp) ?_
                    refine AllReadyH.cons (o := ⟨some 7, _, _, _, _, _⟩) rfl (fun K hK => ?_) AllReadyH.nil
                    · as_aux_lemma =>
                        go_simp
                        refine hK.out _ _ ?_ (fun hHeld => ?_)
                        · exact bd2.out.alloc bd2.out.size _
                        clear hK K
                        (try simp only [Act.put, List.setIfInBounds_toArray, List.set_cons_zero, List.set_cons_succ])
                        have bd3 := Lib.hid (below_is hHeld)
                        have es2 := bd2.out.size
                        have ow3 := Lib.hid (own_more hHeld ow2.out)
                        have q3 : Hid (Sa.Slot _ _ 27 3) := Lib.hid (slot_new hHeld rfl)
                        have k3 := Lib.hid (slot_more hHeld k2.out)
                        generalize v1.alloc _ = V3 at *
                        have ls2 := q3.out.lt
                        refine wpAnyH_ready (rs := [13]) (by decide +kernel) (by simp) ?_
                        refine AllReadyH.cons (o := ⟨none, _, _, _, _, _⟩) rfl (fun K hK => ?_) AllReadyH.nil
                        rw [if_pos (by rfl)]
                        have BE := Sa.row_end bd3.out (show W3.heap.size ≤ v1.heap.size by omega) (y).arr
                        have BF := Sa.row_end BE (show W3.heap.size ≤ V0.heap.size by omega) (C).arr
                        obtain ⟨cs, hcs, hsz⟩ := q3.out
                        refine Sa.oper_store_row 27 _ _ rfl (v1.heap.size) 27 cs (y).arr rfl rfl hcs (sizeT _) hsz (oneT _) ?_
                        refine hK.out _ _ ?_ (fun hHeld => ?_)
                        · exact BE
                        clear hK K hcs hsz
                        (try simp only [Act.put])
                        refine wpAnyH_ready (rs := [14]) (by decide +kernel) (by simp) ?_
                        refine AllReadyH.cons (o := ⟨none, _, _, _, _, _⟩) rfl (fun K hK => ?_) AllReadyH.nil
                        rw [if_pos (by rfl)]
                        have hk2 := Sa.slot_rowfar k3.out (show V0.heap.size ≠ v1.heap.size by omega) (y).arr
                        obtain ⟨cs, hcs, hsz⟩ := hk2
                        refine Sa.oper_store_row 37 _ _ rfl (V0.heap.size) 37 cs (C).arr rfl rfl hcs (Sa.sizeC _) hsz (Sa.oneC _) ?_
                        refine hK.out _ _ ?_ (fun hHeld => ?_)
                        · exact BF
                        clear hK K hcs hsz
                        (try simp only [Act.put])
                        refine wpAnyH_take (i := 15) (oi := ⟨some 9, _, _, _, _, _⟩) (v := ?_) rfl (by kernel_rfl) (by kernel_rfl) (by kernel_rfl) (fun _ _ _ h => h) (Or.inl ⟨by rfl, ?_⟩) (by assumption) ?_
                        rotate_left
                        · (intro u hu; (try dsimp only at hu); go_simp; (try with_reducible rfl))
                        (try simp only [Act.put, List.setIfInBounds_toArray, List.set_cons_zero, List.set_cons_succ])
                        refine wpAnyH_done (by kernel_rfl) ?_ _
                        go_wp2
                        go_meet
                        exact ⟨_, _, y, rfl, rfl, rfl, Lib.hid ⟨BF, Sa.box_far (q3.out.row _) (show v1.heap.size ≠ V0.heap.size by omega) _, ⟨_, own_slots ow3.out q3.out k3.out (show V0.heap.size ≠ v1.heap.size by omega), Nat.lt_of_lt_of_le hb5 ersz⟩, HST.out, show b5 < v1.heap.size by omega⟩⟩
                · as_aux_lemma =>
                    go_simp
                    refine hK.out _ _ ?_ (fun hHeld => ?_)
                    · exact bd1.out.alloc bd1.out.size _
                    clear hK K
                    (try simp only [Act.put, List.setIfInBounds_toArray, List.set_cons_zero, List.set_cons_succ])
                    have bd2 := Lib.hid (below_is hHeld)
                    have es1 := bd1.out.size
                    have q2 : Hid (Sa.Slot _ _ 27 3) := Lib.hid (slot_new hHeld rfl)
                    have k2 := Lib.hid (slot_more hHeld k1.out)
                    generalize V1.alloc _ = V2 at *
                    have ls1 := q2.out.lt
                    refine wpAnyH_ready (rs := [6]) (by decide +kernel) (by simp) ?_
                    refine AllReadyH.cons (o := ⟨some 41, _, _, _, _, _⟩) rfl (fun K hK => ?_) AllReadyH.nil
                    · as_aux_lemma =>
                        have ersz := bd2.out.size
                        go_simp
                        (with_reducible refine (HD.out _ ((bd2.out.mono (Nat.le_refl _)))).mono ?_)
                        rintro e v1 ⟨y, rfl, ho, hst, hb⟩
                        have bd3 := Lib.hid (bd2.out.trans (hb.mono bd2.out.size))
                        have ow3 := Lib.hid ho
                        have HST := Lib.hid hst
                        clear ho hst
                        have q3 := Lib.hid (Sa.slot_on q2.out hb)
                        have k3 := Lib.hid (Sa.slot_on k2.out hb)
                        have hs3 := hb.size
                        clear hb
                        go_wp2_with fail
                        refine hK.out _ _ ?_ (fun hHeld => ?_)
                        · exact bd3.out
                        clear hK K
                        (try simp only [Act.put, List.setIfInBounds_toArray, List.set_cons_zero, List.set_cons_succ])
                        refine wpAnyH_take (i := 7) (oi := ⟨some 34, _, _, _, _, _⟩) (v := ?_) rfl (by kernel_rfl) (by kernel_rfl) (by kernel_rfl) (fun _ _ _ h => h) (Or.inl ⟨by rfl, ?_⟩) (by assumption) ?_
                        rotate_left
                        · (intro u hu; (try dsimp only at hu); go_simp; (try with_reducible rfl))
                        (try simp only [Act.put, List.setIfInBounds_toArray, List.set_cons_zero, List.set_cons_succ])
                        refine wpAnyH_take (i := 8) (oi := ⟨some 42, _, _, _, _, _⟩) (v := ?_) rfl (by kernel_rfl) (by kernel_rfl) (by kernel_rfl) (fun _ _ _ h => h) (Or.inl ⟨by rfl, ?_⟩) (by assumption) ?_
                        rotate_left
                        · (intro u hu; (try dsimp only at hu); go_simp; (try with_reducible rfl))
                        (try simp only [Act.put, List.setIfInBounds_toArray, List.set_cons_zero, List.set_cons_succ])
                        refine wpAnyH_take (i := 9) (oi := ⟨some 43, _, _, _, _, _⟩) (v := ?_) rfl (by kernel_rfl) (by kernel_rfl) (by kernel_rfl) (fun _ _ _ h => h) (Or.inl ⟨by rfl, ?_⟩) (by assumption) ?_
                        rotate_left
                        · (intro u hu; (try dsimp only at hu); go_simp; (try with_reducible rfl))
                        (try simp only [Act.put, List.setIfInBounds_toArray, List.set_cons_zero, List.set_cons_succ])
                        refine wpAnyH_take (i := 10) (oi := ⟨some 44, _, _, _, _, _⟩) (v := ?_) rfl (by kernel_rfl) (by kernel_rfl) (by kernel_rfl) (fun _ _ _ h => h) (Or.inl ⟨by rfl, ?_⟩) (by assumption) ?_
                        rotate_left
                        · (intro u hu; (try dsimp only at hu); go_simp; (try with_reducible rfl))
                        (try simp only [Act.put, List.setIfInBounds_toArray, List.set_cons_zero, List.set_cons_succ])
                        refine wpAnyH_ready (rs := [13]) (by decide +kernel) (by simp) ?_
                        refine AllReadyH.cons (o := ⟨none, _, _, _, _, _⟩) rfl (fun K hK => ?_) AllReadyH.nil
                        rw [if_pos (by rfl)]
                        have BE := Sa.row_end bd3.out (show W3.heap.size ≤ V1.heap.size by omega) (y).arr
                        have BF := Sa.row_end BE (show W3.heap.size ≤ V0.heap.size by omega) (C).arr
                        obtain ⟨cs, hcs, hsz⟩ := q3.out
                        refine Sa.oper_store_row 27 _ _ rfl (V1.heap.size) 27 cs (y).arr rfl rfl hcs (sizeT _) hsz (oneT _) ?_
                        refine hK.out _ _ ?_ (fun hHeld => ?_)
                        · exact BE
                        clear hK K hcs hsz
                        (try simp only [Act.put])
                        refine wpAnyH_ready (rs := [14]) (by decide +kernel) (by simp) ?_
                        refine AllReadyH.cons (o := ⟨none, _, _, _, _, _⟩) rfl (fun K hK => ?_) AllReadyH.nil
                        rw [if_pos (by rfl)]
                        have hk2 := Sa.slot_rowfar k3.out (show V0.heap.size ≠ V1.heap.size by omega) (y).arr
                        obtain ⟨cs, hcs, hsz⟩ := hk2
                        refine Sa.oper_store_row 37 _ _ rfl (V0.heap.size) 37 cs (C).arr rfl rfl hcs (Sa.sizeC _) hsz (Sa.oneC _) ?_
                        refine hK.out _ _ ?_ (fun hHeld => ?_)
                        · exact BF
                        clear hK K hcs hsz
                        (try simp only [Act.put])
                        refine wpAnyH_take (i := 15) (oi := ⟨some 9, _, _, _, _, _⟩) (v := ?_) rfl (by kernel_rfl) (by kernel_rfl) (by kernel_rfl) (fun _ _ _ h => h) (Or.inl ⟨by rfl, ?_⟩) (by assumption) ?_
                        rotate_left
                        · (intro u hu; (try dsimp only at hu); go_simp; (try with_reducible rfl))
                        (try simp only [Act.put, List.setIfInBounds_toArray, List.set_cons_zero, List.set_cons_succ])
                        refine wpAnyH_done (by kernel_rfl) ?_ _
                        go_wp2
                        go_meet
                        exact ⟨_, _, y, rfl, rfl, rfl, Lib.hid ⟨BF, Sa.box_far (q3.out.row _) (show V1.heap.size ≠ V0.heap.size by omega) _, ⟨_, own_slots ow3.out q3.out k3.out (show V0.heap.size ≠ V1.heap.size by omega), Nat.lt_of_lt_of_le hb5 ersz⟩, HST.out, show b5 < V1.heap.size by omega⟩⟩
          case rest =>
            obtain ⟨g7, g8, y, rfl, rfl, rfl, HC⟩ := hcut
            have HX := Lib.hid (H3.out.on HC.out.1)
            have HY := Lib.hid HC.out.2.1
            obtain ⟨R, hyo, hyR⟩ := HC.out.2.2.1
            have HYO := Lib.hid hyo
            have HYS := Lib.hid hyo.sin
            clear hyo
            have HYT := Lib.hid HC.out.2.2.2.1
            have h75 := HC.out.2.2.2.2
            have HBc := Lib.hid (HB3.out.trans (HC.out.1.mono HB3.out.size))
            have hxn : 0 ≤ x.nx ∧ x.nx ≤ 40 := ⟨HX.out.inv.ok.nx, by have := HX.out.nx; omega⟩
            have hnup : er = 0 → v.k = 1 → y.nx = x.nx + 1 := fun h1 h2 => (congrArg Ms.nx HYT.out).trans (HGW.out.up h1 h2)
            have hnsm : ¬ (er = 0 ∧ v.k = 1) → y.nx = x.nx := fun h => (congrArg Ms.nx HYT.out).trans (HGW.out.same h)
            have hlen : x.nD ≤ y.nD := by
              have h1 := HGW.out.len
              rw [← HYT.out] at h1
              have h2 : x.st.ds.length = x.dx.length := List.length_map _
              have h3 : y.st.ds.length = y.dx.length := List.length_map _
              have h4 := HX.out.sin.lD
              have h5 := HYS.out.lD
              omega
            have HYF : Hid (y.nD ≤ 64 ∧ y.nS ≤ 41 ∧ (∀ s ∈ y.gs, True)) := Lib.hid ⟨by have h1 := HIY.out.ok.ds.few; rw [← HYT.out] at h1; have h2 : y.st.ds.length = y.dx.length := List.length_map _; have h3 := HYS.out.lD; omega, by have h1 := HGW.out.few; rw [← HYT.out] at h1; have h2 : y.st.gs = y.gs := rfl; have h3 := HYS.out.lS; have h4 := HX.out.few; have h5 := HX.out.sin.lS; have h6 : x.st.gs = x.gs := rfl; rw [h2, h6] at h1; omega, fun _ _ => trivial⟩
            clear HC H3 HB3 hwW hwB hb5 HD
            obtain ⟨e0, e1, e2, e3, e4, e5, e6, e7, e8, e9, e10, e11⟩ := HAC.out wc HX.out.bel
            obtain ⟨bo, hbo⟩ : ∃ bo : Bool, bo = decide (er = 0 ∧ v.k = 1) := ⟨_, rfl⟩
            have HBO := Lib.hid hbo
            go_upto_region 12 with fail
            go_cut [10] (fun v1 wd => v1 = .bool bo ∧ wd = wc)
            case first =>
              by_cases h1 : er = 0
              · have f0 : (er == 0) = true := by simp [h1]
                by_cases h2 : v.k = 1
                · have f1 : (v.k == 1) = true := by simp [h2]
                  have f2 : bo = true := by rw [HBO.out]; exact decide_eq_true ⟨h1, h2⟩
                  clear h1 h2 hbo hnup hnsm
                  go_wp2
                  go_meet
                  exact ⟨by rw [f2], rfl⟩
                · have f1 : (v.k == 1) = false := by simp [h2]
                  have f2 : bo = false := by rw [HBO.out]; exact decide_eq_false fun h => h2 h.2
                  clear h1 h2 hbo hnup hnsm
                  go_wp2
                  go_meet
                  exact ⟨by rw [f2], rfl⟩
              · have f0 : (er == 0) = false := by simp [h1]
                have f2 : bo = false := by rw [HBO.out]; exact decide_eq_false fun h => h1 h.1
                clear h1 hbo hnup hnsm
                go_wp2
                go_meet
                exact ⟨by rw [f2], rfl⟩
            case rest =>
              obtain ⟨rfl, rfl⟩ := hcut
              clear e0 e1 e2 e3 e4 e5 e6 e7 e8 e9 e10 e11
              obtain ⟨x0, x1, x2⟩ := HX.out.cs
              have y0 : wc.cell? ⟨g7, 0, none⟩ = some (.slice y.AD y.nD y.cD) := HY.out.cell 0
              have y1 : wc.cell? ⟨g7, 1, none⟩ = some (.slice y.AS y.nS y.cS) := HY.out.cell 1
              have y2 : wc.cell? ⟨g7, 2, none⟩ = some (.int .i64 y.nx) := HY.out.cell 2
              go_upto_region 13 with fail
              go_cut [83] (fun v1 we => v1 = .bool false ∧ we = wc)
              case first =>
                have f3 : decide ((y.nD : Int) < (x.nD : Int)) = false := decide_eq_false (by omega)
                have f4 : decide (y.nD < x.nD) = false := decide_eq_false (by omega)
                cases hq : bo with
                | true =>
                  have hq' := of_decide_eq_true (hbo.symm.trans hq)
                  have f5 : (y.nx != x.nx + 1) = false := by rw [hnup hq'.1 hq'.2]; simp
                  clear hq' hbo hnup hnsm HBO
                  subst hq
                  go_wp2
                  go_meet
                  exact ⟨rfl, rfl⟩
                | false =>
                  have f5 : (y.nx != x.nx) = false := by rw [hnsm (of_decide_eq_false (hbo.symm.trans hq))]; simp
                  clear hbo hnup hnsm HBO
                  subst hq
                  go_wp2
                  go_meet
                  exact ⟨rfl, rfl⟩
              case rest =>
                obtain ⟨rfl, rfl⟩ := hcut
                clear hbo HBO hnup hnsm
                go_upto_region 16 with fail
                have HXL := Lib.hid HX.out.sin.lD
                have HSL := Lib.hid HX.out.sin.lS
                have hyD := HYF.out.1
                have hxS : x.nS ≤ 40 := by have := HX.out.few; omega
                go_loopw [11] (fun vi wr => ∃ p : Nat, vi = .int .i64 (p : Int) ∧ p ≤ x.nD ∧ Hid (Below wc.heap.size wc wr)) (fun vi _ => x.nD - (intOf vi).toNat)
                case atStart => exact ⟨0, rfl, Nat.zero_le _, Lib.hid (Below.refl _ _)⟩
                case round =>
                  obtain ⟨p, rfl, hp, HB⟩ := hrel
                  clear x0 x1 x2 y0 y1 y2
                  have x0 : wr.cell? ⟨b5, 0, none⟩ = some (.slice x.AD x.nD x.cD) := (HX.out.on HB.out).cs.1
                  have x1 : wr.cell? ⟨b5, 1, none⟩ = some (.slice x.AS x.nS x.cS) := (HX.out.on HB.out).cs.2.1
                  by_cases hpn : p < x.nD
                  · obtain ⟨d, hd⟩ : ∃ d, x.dx[p]? = some d := ⟨x.dx[p]'(by have := HXL.out; omega), List.getElem?_eq_getElem _⟩
                    obtain ⟨q, o2, hAD, hql, hdc⟩ := HX.out.sin.hD p d hd
                    obtain ⟨i, hfi, hyi⟩ := HSD.out d.m (List.mem_map.2 ⟨d, List.mem_of_getElem? hd, rfl⟩)
                    rw [← HYT.out] at hfi hyi
                    have hfi' : findX y.dx d.nm = (i : Int) := (findX_is y.dx d.nm).symm.trans hfi
                    have hyi' : (y.dx.map DX.m)[i]? = some d.m := hyi
                    rw [List.getElem?_map] at hyi'
                    obtain ⟨d2, hd2, hdm⟩ := Option.map_eq_some_iff.1 hyi'
                    obtain ⟨q2, o3, hAD2, hql2, hdc2⟩ := HYS.out.hD i d2 hd2
                    have hin : i < y.nD := by have := El.at_lt hd2; have := HYS.out.lD; omega
                    have HQ := Lib.hid hAD
                    have HQ2 := Lib.hid hAD2
                    have hdi := HX.out.sin.each d (List.mem_of_getElem? hd)
                    have hdi2 := HYS.out.each d2 (List.mem_of_getElem? hd2)
                    have hsm : sameB d.nm d2.nm d.dl d2.dl d.ss d2.ss = true := by
                      have e1 : d2.nm = d.nm := congrArg Dm.nm hdm
                      have e2 : d2.dl = d.dl := congrArg Dm.dl hdm
                      have e3 : d2.ss = d.ss := congrArg Dm.ss hdm
                      rw [e1, e2, e3]
                      simp [sameB]
                    have HFD : Hid (∀ W, Below wr.heap.size wr W → Calls Tryz.prog 11 #[.agg #[.slice (some ⟨q2, o3, none⟩) y.nD y.cD, .slice y.AS y.nS y.cS, .int .i64 y.nx], .string d.nm] W fun e w' => e = .returned (.int .i64 (i : Int)) ∧ Below W.heap.size W w') := Lib.hid fun W hW => by
                      have h := rfindD_any y d.nm W (HYS.out.on (HB.out.trans (hW.mono HB.out.size))) (by have := HYF.out; omega)
                      rw [hAD2, hfi'] at h
                      exact h.mono fun e w' ⟨h1, h2⟩ => ⟨h1, h2.below⟩
                    have HSM : Hid (∀ W, Below wc.heap.size wc W → Calls Tryz.prog 12 #[.agg #[.string d.nm, .int .i64 d.dl, .slice d.A d.n d.c], .agg #[.string d2.nm, .int .i64 d2.dl, .slice d2.A d2.n d2.c]] W fun e w' => e = .returned (.bool true) ∧ Below W.heap.size W w') := Lib.hid fun W hW => by
                      have h := rsame_any d.nm d2.nm d.dl d2.dl d.A d2.A d.c d2.c d.ss d2.ss d.n d2.n W hdi.en hdi2.en (by have := hdi.mod.2.1; have := hdi.en; omega) (by have := hdi2.mod.2.1; have := hdi2.en; omega) (hdi.on hW).mem (hdi2.on hW).mem
                      rw [hsm] at h
                      exact h.mono fun e w' ⟨h1, h2⟩ => ⟨h1, h2.below⟩
                    have zc : Hid (∀ u, Below wc.heap.size wc u → (u.cell? ⟨q, o2 + p * 3, none⟩ = some (.string d.nm) ∧ u.cell? ⟨q, o2 + p * 3 + 1, none⟩ = some (.int .i64 d.dl) ∧ u.cell? ⟨q, o2 + p * 3 + 2, none⟩ = some (.slice d.A d.n d.c)) ∧ u.cell? ⟨q2, o3 + i * 3, none⟩ = some (.string d2.nm) ∧ u.cell? ⟨q2, o3 + i * 3 + 1, none⟩ = some (.int .i64 d2.dl) ∧ u.cell? ⟨q2, o3 + i * 3 + 2, none⟩ = some (.slice d2.A d2.n d2.c)) := Lib.hid fun u hu =>
                      ⟨⟨(hu.cell (p := ⟨q, o2 + p * 3, none⟩) hql).trans (hdc 0 _ rfl), (hu.cell (p := ⟨q, o2 + p * 3 + 1, none⟩) hql).trans (hdc 1 _ rfl), (hu.cell (p := ⟨q, o2 + p * 3 + 2, none⟩) hql).trans (hdc 2 _ rfl)⟩, (hu.cell (p := ⟨q2, o3 + i * 3, none⟩) hql2).trans (hdc2 0 _ rfl), (hu.cell (p := ⟨q2, o3 + i * 3 + 1, none⟩) hql2).trans (hdc2 1 _ rfl), (hu.cell (p := ⟨q2, o3 + i * 3 + 2, none⟩) hql2).trans (hdc2 2 _ rfl)⟩
                    clear hd hAD hql hdc hfi hyi hfi' hyi' hd2 hdm hAD2 hql2 hdc2 hdi hdi2 hsm
                    have x0' : wr.cell? ⟨b5, 0, none⟩ = some (.slice (some ⟨q, o2, none⟩) x.nD x.cD) := by rw [← HQ.out]; exact x0
                    go_upto_region 18 with fail
                    clear x0 x1 x0'
                    have z0 : ∀ u, Below wr.heap.size wr u → u.cell? ⟨b5, 0, none⟩ = some (.slice (some ⟨q, o2, none⟩) x.nD x.cD) := fun u H => by rw [← HQ.out]; exact (HX.out.on (HB.out.trans (H.mono HB.out.size))).cs.1
                    have z1 : ∀ u, Below wr.heap.size wr u → u.cell? ⟨g7, 0, none⟩ = some (.slice (some ⟨q2, o3, none⟩) y.nD y.cD) := fun u H => by rw [← HQ2.out]; exact (HY.out.below (HB.out.trans (H.mono HB.out.size)) HY.out.lt).cell 0
                    have z2 : ∀ u, Below wr.heap.size wr u → u.cell? ⟨g7, 1, none⟩ = some (.slice y.AS y.nS y.cS) := fun u H => (HY.out.below (HB.out.trans (H.mono HB.out.size)) HY.out.lt).cell 1
                    have z3 : ∀ u, Below wr.heap.size wr u → u.cell? ⟨g7, 2, none⟩ = some (.int .i64 y.nx) := fun u H => (HY.out.below (HB.out.trans (H.mono HB.out.size)) HY.out.lt).cell 2
                    have z4 : ∀ u, Below wr.heap.size wr u → u.cell? ⟨q, o2 + p * 3, none⟩ = some (.string d.nm) := fun u H => (zc.out u (HB.out.trans (H.mono HB.out.size))).1.1
                    go_region_held3 (fun u => Below wr.heap.size wr u) (first | exact Below.refl _ _ | exact Below.drew (Below.refl _ _) | assumption)
                      ((go_at_call 11; (with_reducible refine (HFD.out _ ?_).mono ?_); (first | assumption | exact Below.drew (Below.refl _ _)); rintro e w5 ⟨rfl, hm⟩; have hw5 : Below wr.heap.size wr w5 := (Below.drew (Below.refl _ wr)).trans hm; clear hm))
                    go_upto_region 19 with fail
                    clear z0 z1 z2 z3 z4
                    have HW5 := Lib.hid (HB.out.trans (hw5.mono HB.out.size))
                    clear hw5
                    have f6 : decide ((i : Int) < 0) = false := decide_eq_false (by omega)
                    have z0 : ∀ u, Below w5.heap.size w5 u → u.cell? ⟨b5, 0, none⟩ = some (.slice (some ⟨q, o2, none⟩) x.nD x.cD) := fun u H => by rw [← HQ.out]; exact (HX.out.on (HW5.out.trans (H.mono HW5.out.size))).cs.1
                    have z1 : ∀ u, Below w5.heap.size w5 u → u.cell? ⟨g7, 0, none⟩ = some (.slice (some ⟨q2, o3, none⟩) y.nD y.cD) := fun u H => by rw [← HQ2.out]; exact (HY.out.below (HW5.out.trans (H.mono HW5.out.size)) HY.out.lt).cell 0
                    have z4 : ∀ u, Below w5.heap.size w5 u → u.cell? ⟨q, o2 + p * 3, none⟩ = some (.string d.nm) := fun u H => (zc.out u (HW5.out.trans (H.mono HW5.out.size))).1.1
                    have z5 : ∀ u, Below w5.heap.size w5 u → u.cell? ⟨q, o2 + p * 3 + 1, none⟩ = some (.int .i64 d.dl) := fun u H => (zc.out u (HW5.out.trans (H.mono HW5.out.size))).1.2.1
                    have z6 : ∀ u, Below w5.heap.size w5 u → u.cell? ⟨q, o2 + p * 3 + 2, none⟩ = some (.slice d.A d.n d.c) := fun u H => (zc.out u (HW5.out.trans (H.mono HW5.out.size))).1.2.2
                    have z7 : ∀ u, Below w5.heap.size w5 u → u.cell? ⟨q2, o3 + i * 3, none⟩ = some (.string d2.nm) := fun u H => (zc.out u (HW5.out.trans (H.mono HW5.out.size))).2.1
                    have z8 : ∀ u, Below w5.heap.size w5 u → u.cell? ⟨q2, o3 + i * 3 + 1, none⟩ = some (.int .i64 d2.dl) := fun u H => (zc.out u (HW5.out.trans (H.mono HW5.out.size))).2.2.1
                    have z9 : ∀ u, Below w5.heap.size w5 u → u.cell? ⟨q2, o3 + i * 3 + 2, none⟩ = some (.slice d2.A d2.n d2.c) := fun u H => (zc.out u (HW5.out.trans (H.mono HW5.out.size))).2.2.2
                    go_region_held3 (fun u => Below w5.heap.size w5 u) (first | exact Below.refl _ _ | exact Below.drew (Below.refl _ _) | assumption)
                      ((go_at_call 12; (with_reducible refine (HSM.out _ (HW5.out.trans (Below.mono ?_ HW5.out.size))).mono ?_); (first | assumption | exact Below.drew (Below.refl _ _)); rintro e w6 ⟨rfl, hm⟩; have hw6 : Below w5.heap.size w5 w6 := (Below.drew (Below.refl _ w5)).trans hm; clear hm))
                    have HB6 := Lib.hid (HW5.out.trans (hw6.mono HW5.out.size))
                    clear hw6 z0 z1 z4 z5 z6 z7 z8 z9
                    go_wp2
                    go_roundw
                    case rel => exact ⟨p + 1, by go_num, by omega, HB6⟩
                    case measure => simp only [intOf]; omega
                  · have hpe : p = x.nD := by omega
                    clear hpn
                    clear hp
                    go_upto_region 22 with fail
                    clear x0 x1
                    go_loopw [13] (fun vi wr => ∃ p : Nat, vi = .int .i64 (p : Int) ∧ p ≤ x.nS ∧ Hid (Below wc.heap.size wc wr)) (fun vi _ => x.nS - (intOf vi).toNat)
                    case atStart => exact ⟨0, rfl, Nat.zero_le _, HB⟩
                    case round =>
                      clear HB hpe
                      obtain ⟨p, rfl, hp, HB⟩ := hrel
                      have x0 : wr.cell? ⟨b5, 0, none⟩ = some (.slice x.AD x.nD x.cD) := (HX.out.on HB.out).cs.1
                      have x1 : wr.cell? ⟨b5, 1, none⟩ = some (.slice x.AS x.nS x.cS) := (HX.out.on HB.out).cs.2.1
                      have x2 : wr.cell? ⟨b5, 2, none⟩ = some (.int .i64 x.nx) := (HX.out.on HB.out).cs.2.2
                      have HYB := Lib.hid (HY.out.below HB.out HY.out.lt)
                      by_cases hpn : p < x.nS
                      · obtain ⟨s, hs⟩ : ∃ s, x.gs[p]? = some s := ⟨x.gs[p]'(by have := HSL.out; omega), List.getElem?_eq_getElem _⟩
                        obtain ⟨q, o2, hAS, hql, hdc⟩ := HX.out.sin.hS p s hs
                        have HQ := Lib.hid hAS
                        have HNS : Hid (s.id ≠ v.sg → ∃ i : Nat, findS y.gs s.id = (i : Int) ∧ y.gs[i]? = some s) := Lib.hid fun hn => by
                          have h := HSG.out s (List.mem_of_getElem? hs) hn
                          rw [← HYT.out] at h
                          exact h
                        have zc : Hid (∀ u, Below wc.heap.size wc u → u.cell? ⟨q, o2 + p * 9, none⟩ = some (.int .i64 s.id) ∧ u.cell? ⟨q, o2 + p * 9 + 1, none⟩ = some (.string s.dn) ∧ u.cell? ⟨q, o2 + p * 9 + 2, none⟩ = some (.int .i64 s.st) ∧ u.cell? ⟨q, o2 + p * 9 + 3, none⟩ = some (.int .i64 s.ph) ∧ u.cell? ⟨q, o2 + p * 9 + 4, none⟩ = some (.int .i64 s.sp) ∧ u.cell? ⟨q, o2 + p * 9 + 5, none⟩ = some (.int .i64 s.tr) ∧ u.cell? ⟨q, o2 + p * 9 + 6, none⟩ = some (.bool s.out) ∧ u.cell? ⟨q, o2 + p * 9 + 7, none⟩ = some (.int .i64 s.at_) ∧ u.cell? ⟨q, o2 + p * 9 + 8, none⟩ = some (.int .i64 s.sk)) := Lib.hid fun u hu => ⟨(hu.cell (p := ⟨q, o2 + p * 9, none⟩) hql).trans (hdc 0 _ rfl), (hu.cell (p := ⟨q, o2 + p * 9 + 1, none⟩) hql).trans (hdc 1 _ rfl), (hu.cell (p := ⟨q, o2 + p * 9 + 2, none⟩) hql).trans (hdc 2 _ rfl), (hu.cell (p := ⟨q, o2 + p * 9 + 3, none⟩) hql).trans (hdc 3 _ rfl), (hu.cell (p := ⟨q, o2 + p * 9 + 4, none⟩) hql).trans (hdc 4 _ rfl), (hu.cell (p := ⟨q, o2 + p * 9 + 5, none⟩) hql).trans (hdc 5 _ rfl), (hu.cell (p := ⟨q, o2 + p * 9 + 6, none⟩) hql).trans (hdc 6 _ rfl), (hu.cell (p := ⟨q, o2 + p * 9 + 7, none⟩) hql).trans (hdc 7 _ rfl), (hu.cell (p := ⟨q, o2 + p * 9 + 8, none⟩) hql).trans (hdc 8 _ rfl)⟩
                        have HFD : Hid (∀ W, Below wr.heap.size wr W → Calls Tryz.prog 13 #[.agg #[.slice y.AD y.nD y.cD, .slice y.AS y.nS y.cS, .int .i64 y.nx], .int .i64 s.id] W fun e w' => e = .returned (.int .i64 (findS y.gs s.id)) ∧ Below W.heap.size W w') := Lib.hid fun W hW =>
                          (rfindS_any y s.id W (HYS.out.on (HB.out.trans (hW.mono HB.out.size))) (by have := HYF.out.2.1; omega)).mono fun e w' ⟨h1, h2⟩ => ⟨h1, h2.below⟩
                        clear hs hAS hql hdc x0 x1 x2
                        have x1 : wr.cell? ⟨b5, 1, none⟩ = some (.slice (some ⟨q, o2, none⟩) x.nS x.cS) := by rw [← HQ.out]; exact (HX.out.on HB.out).cs.2.1
                        obtain ⟨s0, s1, s2, s3, s4, s5, s6, s7, s8⟩ := zc.out wr HB.out
                        go_upto_region 25 with fail
                        have HBA := Lib.hid (HB.out.trans ((below_al wr (.cells #[.int .i64 s.id, .string s.dn, .int .i64 s.st, .int .i64 s.ph, .int .i64 s.sp, .int .i64 s.tr, .bool s.out, .int .i64 s.at_, .int .i64 s.sk] 49)).mono HB.out.size))
                        have HA1 := Lib.hid (below_al wr (.cells #[.int .i64 s.id, .string s.dn, .int .i64 s.st, .int .i64 s.ph, .int .i64 s.sp, .int .i64 s.tr, .bool s.out, .int .i64 s.at_, .int .i64 s.sk] 49))
                        have HBX := Lib.hid (Box.new wr 49 #[.int .i64 s.id, .string s.dn, .int .i64 s.st, .int .i64 s.ph, .int .i64 s.sp, .int .i64 s.tr, .bool s.out, .int .i64 s.at_, .int .i64 s.sk])
                        clear s0 s1 s2 s3 s4 s5 s6 s7 s8 x1
                        generalize wr.alloc (.cells #[.int .i64 s.id, .string s.dn, .int .i64 s.st, .int .i64 s.ph, .int .i64 s.sp, .int .i64 s.tr, .bool s.out, .int .i64 s.at_, .int .i64 s.sk] 49) = wa at *
                        generalize wr.heap.size = b14 at *
                        have y0 : wa.cell? ⟨g7, 0, none⟩ = some (.slice y.AD y.nD y.cD) := (HY.out.below HBA.out HY.out.lt).cell 0
                        have y1 : wa.cell? ⟨g7, 1, none⟩ = some (.slice y.AS y.nS y.cS) := (HY.out.below HBA.out HY.out.lt).cell 1
                        have y2 : wa.cell? ⟨g7, 2, none⟩ = some (.int .i64 y.nx) := (HY.out.below HBA.out HY.out.lt).cell 2
                        have t0 : wa.cell? ⟨b14, 0, none⟩ = some (.int .i64 s.id) := HBX.out.cell 0
                        go_upto_region 26 with (go_at_call 13; (with_reducible refine (HFD.out _ HA1.out).mono ?_); rintro e w7 ⟨rfl, hm⟩; have HB7 := Lib.hid (HBA.out.trans (hm.mono HBA.out.size)); have HX7 := Lib.hid (HBX.out.below hm HBX.out.lt); clear hm)
                        clear y0 y1 y2 t0 HFD HA1
                        obtain ⟨e0, e1, e2, e3, e4, e5, e6, e7, e8, e9, e10, e11⟩ := HAC.out w7 (HX.out.on HB7.out).bel
                        have t0 : w7.cell? ⟨b14, 0, none⟩ = some (.int .i64 s.id) := HX7.out.cell 0
                        by_cases hn : s.id = v.sg
                        · have n0 : (s.id != v.sg) = false := by simp [hn]
                          generalize findS y.gs s.id = r at *
                          clear hn HNS
                          go_quiet (fail)
                          have HB8 : Hid (Below wc.heap.size wc (w7.drewN nq)) := Lib.hid (HB7.out.trans ((show Below w7.heap.size w7 (w7.drewN nq) from ⟨rfl, rfl, rfl, Nat.le_refl _, fun _ _ => rfl⟩).mono HB7.out.size))
                          generalize w7.drewN nq = w8 at *
                          go_wp2
                          go_roundw
                          case rel => exact ⟨p + 1, by go_num, by omega, HB8⟩
                          case measure => simp only [intOf]; omega
                        · have n0 : (s.id != v.sg) = true := by simp [hn]
                          obtain ⟨i, hfi, hyi⟩ := HNS.out hn
                          rw [hfi]
                          clear hn HNS
                          have n1 : decide ((i : Int) < 0) = false := decide_eq_false (by omega)
                          obtain ⟨q2, o3, hAS2, hql2, hdc2⟩ := HYS.out.hS i s hyi
                          have hin : i < y.nS := by have := El.at_lt hyi; have := HYS.out.lS; omega
                          have y1 : w7.cell? ⟨g7, 1, none⟩ = some (.slice (some ⟨q2, o3, none⟩) y.nS y.cS) := by rw [← hAS2]; exact (HY.out.below HB7.out HY.out.lt).cell 1
                          obtain ⟨r0, r1, r2, r3, r4, r5, r6, r7, r8⟩ : w7.cell? ⟨q2, o3 + i * 9, none⟩ = some (.int .i64 s.id) ∧ w7.cell? ⟨q2, o3 + i * 9 + 1, none⟩ = some (.string s.dn) ∧ w7.cell? ⟨q2, o3 + i * 9 + 2, none⟩ = some (.int .i64 s.st) ∧ w7.cell? ⟨q2, o3 + i * 9 + 3, none⟩ = some (.int .i64 s.ph) ∧ w7.cell? ⟨q2, o3 + i * 9 + 4, none⟩ = some (.int .i64 s.sp) ∧ w7.cell? ⟨q2, o3 + i * 9 + 5, none⟩ = some (.int .i64 s.tr) ∧ w7.cell? ⟨q2, o3 + i * 9 + 6, none⟩ = some (.bool s.out) ∧ w7.cell? ⟨q2, o3 + i * 9 + 7, none⟩ = some (.int .i64 s.at_) ∧ w7.cell? ⟨q2, o3 + i * 9 + 8, none⟩ = some (.int .i64 s.sk) := ⟨(HB7.out.cell (p := ⟨q2, o3 + i * 9, none⟩) hql2).trans (hdc2 0 _ rfl), (HB7.out.cell (p := ⟨q2, o3 + i * 9 + 1, none⟩) hql2).trans (hdc2 1 _ rfl), (HB7.out.cell (p := ⟨q2, o3 + i * 9 + 2, none⟩) hql2).trans (hdc2 2 _ rfl), (HB7.out.cell (p := ⟨q2, o3 + i * 9 + 3, none⟩) hql2).trans (hdc2 3 _ rfl), (HB7.out.cell (p := ⟨q2, o3 + i * 9 + 4, none⟩) hql2).trans (hdc2 4 _ rfl), (HB7.out.cell (p := ⟨q2, o3 + i * 9 + 5, none⟩) hql2).trans (hdc2 5 _ rfl), (HB7.out.cell (p := ⟨q2, o3 + i * 9 + 6, none⟩) hql2).trans (hdc2 6 _ rfl), (HB7.out.cell (p := ⟨q2, o3 + i * 9 + 7, none⟩) hql2).trans (hdc2 7 _ rfl), (HB7.out.cell (p := ⟨q2, o3 + i * 9 + 8, none⟩) hql2).trans (hdc2 8 _ rfl)⟩
                          have t1 : w7.cell? ⟨b14, 1, none⟩ = some (.string s.dn) := HX7.out.cell 1
                          have t2 : w7.cell? ⟨b14, 2, none⟩ = some (.int .i64 s.st) := HX7.out.cell 2
                          have t3 : w7.cell? ⟨b14, 3, none⟩ = some (.int .i64 s.ph) := HX7.out.cell 3
                          have t4 : w7.cell? ⟨b14, 4, none⟩ = some (.int .i64 s.sp) := HX7.out.cell 4
                          have t5 : w7.cell? ⟨b14, 5, none⟩ = some (.int .i64 s.tr) := HX7.out.cell 5
                          have t6 : w7.cell? ⟨b14, 6, none⟩ = some (.bool s.out) := HX7.out.cell 6
                          have t7 : w7.cell? ⟨b14, 7, none⟩ = some (.int .i64 s.at_) := HX7.out.cell 7
                          have t8 : w7.cell? ⟨b14, 8, none⟩ = some (.int .i64 s.sk) := HX7.out.cell 8
                          have gd := Sa.guard_saga
                          have ns := neq_self s
                          clear hfi hyi hAS2 hql2 hdc2
                          go_quiet (fail)
                          have HB8 : Hid (Below wc.heap.size wc (w7.drewN nq)) := Lib.hid (HB7.out.trans ((show Below w7.heap.size w7 (w7.drewN nq) from ⟨rfl, rfl, rfl, Nat.le_refl _, fun _ _ => rfl⟩).mono HB7.out.size))
                          generalize w7.drewN nq = w8 at *
                          go_wp2
                          go_roundw
                          case rel => exact ⟨p + 1, by go_num, by omega, HB8⟩
                          case measure => simp only [intOf]; omega
                      · have hpe : p = x.nS := by omega
                        clear hpn hp
                        have y0 : wr.cell? ⟨g7, 0, none⟩ = some (.slice y.AD y.nD y.cD) := HYB.out.cell 0
                        have y1 : wr.cell? ⟨g7, 1, none⟩ = some (.slice y.AS y.nS y.cS) := HYB.out.cell 1
                        have y2 : wr.cell? ⟨g7, 2, none⟩ = some (.int .i64 y.nx) := HYB.out.cell 2
                        have HXB := Lib.hid (HX.out.on HB.out)
                        go_wp2_with (refine wpList_store_row rfl 27 _ _ rfl b5 27 x.arr y.arr rfl rfl HXB.out.box (sizeT y) rfl (oneT y) ?_)
                        (try simp only [Act.put])
                        go_roundw
                        case rel => exact ⟨k + 1, y, by go_num, by omega, Lib.hid (HNX.out wr y R HXB.out HYT.out (HYO.out.below HB.out) hyR)⟩
                        case measure => simp only [intOf]; omega
        · have g0 : (shortI v != 0) = true := by simpa using hs
          clear hs
          go_wp2_with (go_at_call 6; (with_reducible refine (HSH.out _ HW.out.bel).mono ?_); rintro e W3 ⟨rfl, hb⟩; have H3 := Lib.hid (HW.out.on hb); clear hb)
          go_ret
          exact ⟨rfl, H3.out.bel⟩
      · have hkm' : k = m := by omega
        have HWB := Lib.hid HW.out.bel
        clear HW hk hkm
        go_wp2
        go_ret
        exact ⟨rfl, HWB.out⟩
  · have t1 : decide ((40 : Int) < (m : Int)) = true := decide_eq_true (by omega)
    have t2 : decide (40 < m) = true := decide_eq_true (by omega)
    go_enter Tryz.func4, Tryz.ntmps4
    go_wp2_with (go_at_call 5; (with_reducible refine HA.out.mono ?_); rintro e w1 ⟨rfl, hb⟩; have H0 := Lib.hid hb; clear hb)
    go_ret
    exact ⟨rfl, H0.out⟩

theorem tab_of_laid {W : World} (h : laidMetH Tryz.prog Rows.stateGrowsRow.laid W) : Tab W := by
  rw [MakeChecks.laidMetH_plain _ _ _ (by kernel_rfl)] at h
  have h2 := laidMet.tail (laidMet.tail h)
  have e : (Rows.laid_internal_strconv_uint64pow10 : DataW Unit) = Lib.tabData .u64 Lib.pow10Tab := by kernel_rfl
  rw [show (Rows.laid_internal_strconv_uint64pow10 : DataW Unit) = Lib.tabData .u64 Lib.pow10Tab from e] at h2
  exact Lib.tabIs_of_head (g := 1) (t := 160) (e := 154) (n := 20) (by kernel_rfl) (by kernel_rfl) Tryz.underlying160 Tryz.underlying154 (by kernel_rfl) (by kernel_rfl) h2
set_option maxRecDepth 100000 in
theorem lifted (os : Os) (started : os.Started) (H : Type) (enc : TypeId × Value → H) :
    ReturnsInHanded {} Tryz.checked os 4 .any (fun w args => (Rows.stateGrowsSpec.pre enc Tryz.prog Tryz.f4 Rows.stateGrowsRow.domain false w args ∧ laidMetH Tryz.prog Rows.stateGrowsRow.laid w) ∧ sizedMet enc Tryz.prog Tryz.f4 (OpenSpec.ofChange Rows.stateGrowsSpec) false w args)
      (Rows.stateGrowsSpec.post enc Tryz.prog Tryz.f4 false true false false) := by
  refine returns_both (C := Tryz.checked) (X := fun w _ => laidMetH Tryz.prog Rows.stateGrowsRow.laid w) (fun _ _ _ hh h => h.of_heap hh) own started (by kernel_rfl) Tryz.func4
    (ChangeSpec.witness_shaped (enc := enc) (C := Tryz.checked) (os := os) (X := fun w _ => laidMetH Tryz.prog Rows.stateGrowsRow.laid w) false (World.laidAll Tryz.prog os Rows.stateGrowsRow.laid) #[.slice none 0 0, .int .i64 0] 8 (World.laidAll_os _ _ _)
      (World.shaped_of_ZipB (by kernel_rfl) (by kernel_rfl)) (by kernel_rfl) (by kernel_rfl) (by kernel_rfl)
      (by rw [MakeChecks.laidMetH_plain _ _ _ (by kernel_rfl)]; exact laidMet_laidAll _ (by kernel_rfl) (by kernel_rfl))) ?_
  intro W base args ds gs before hval0 hW hreach0 hlaid _
  have hT : Tab W := tab_of_laid hlaid
  have hval : ∀ (j : Nat) t v, Tryz.f4.params[j]? = some t → args[j]? = some v → Value.okWide Tryz.prog W .any base t v := hval0
  have hW' := hW
  obtain ⟨p, q, hA0, hV, rfl, _, _⟩ := hW
  have hreach : (DataW.weightsEach Tryz.prog (Tryz.f4.params.toList ++ Rows.stateGrowsSpec.plain.varTypes Tryz.prog) (ds ++ gs)).all (· ≤ reachBytes) = true := hreach0
  have hA : DataW.TrodAll enc Tryz.prog W 0 (fun _ => true) true Tryz.f4.params.toList args.toList ds p := hA0
  rw [Tryz.params4] at hA hval hreach
  obtain ⟨rfl, rfl⟩ := trodVars_none hV
  obtain ⟨v0, vs0, d0, ds0, p0, q0, hargs, rfl, rfl, h0, r0⟩ := trodAll_cons hA
  obtain ⟨v1, vs1, d1, ds1, p1, q1, rfl, rfl, rfl, h1, r1⟩ := trodAll_cons r0
  obtain ⟨rfl, rfl, rfl⟩ := trodAll_nil r1
  obtain rfl : args = #[v0, v1] := by cases args; simp_all
  obtain ⟨A0, c0, l0, y0, n0, f0, e0⟩ := arg_evs (hval 0 22 v0 rfl rfl) h0
  subst y0
  obtain ⟨a1, rfl, rfl, rfl, w1⟩ := open_int Tryz.underlying3 (hval 1 3 v1 rfl rfl) h1
  clear hA0 hval0
  simp only [List.append_nil] at hW'
  have hlt0 : ∀ x ∈ p0, x.block < W.heap.size := fun x hx => by simpa using hW'.lt x (by simp [hx])
  refine (walk A0 c0 l0 a1 W hT n0 f0 e0).mono fun e W' ⟨he, bel⟩ => ?_
  subst he
  exact ⟨_, rfl, _, _, _, [], _, [], hW', trodAll_mk1 (shut_bool Tryz.underlying4 _), (trodAll_cons_mk (Below.trod laidOut (by kernel_rfl) (of_decide_eq_true (by kernel_rfl)) h0 bel hlt0) (trodAll_cons_mk (shut_int Tryz.underlying3 w1) trodAll_mk0)), rfl, bel.frame _, fun h => by cases h⟩

theorem over : Rows.stateGrowsRow.holds Tryz.pinned (OpenSpec.ofChange Rows.stateGrowsSpec) :=
  OpenClaim.holds_of_wide 4 Tryz.f4 rfl rfl rfl rfl rfl rfl rfl ⟨rfl, rfl, rfl, rfl, rfl⟩ rfl rfl rfl rfl rfl (by kernel_rfl) Tryz.func4 (by kernel_rfl)
    (of_decide_eq_true (by kernel_rfl)) (by unfold Func.isWrapper; first | (rw [if_pos (by decide +kernel)]; kernel_rfl) | (rw [if_neg (by decide +kernel)]; exact ⟨rfl, rfl⟩))
    (fun os started H enc _ => lifted os started H enc)

/-- the statement -/
theorem proved : Rows.StateGrowsCardSaid :=
  Claim7.holds_tied_plain_at .later [] [.data, .data, .data] true Rows.stateGrowsCard.stood.harness false over (fun _ h => by cases h) (by kernel_rfl) (fun _ h => by cases h) stateGrows_row_tie rfl ⟨rfl, rfl⟩ (by kernel_rfl) rfl
    (fun f fn hf hfn => by
      obtain rfl : f = 4 := Option.some.inj ((show Tryz.prog.funcNamed Rows.stateGrowsRow.func = some 4 by kernel_rfl).symm.trans hf) |>.symm
      obtain rfl : fn = Tryz.f4 := (Option.some.inj (Tryz.func4.symm.trans hfn)).symm
      exact ⟨by kernel_rfl, fun j t ht => by
        rw [Tryz.params4] at ht
        have hm : t ∈ [22, 3] := by simpa using Array.mem_of_getElem? ht
        have hall : ([22, 3].all fun u => !Tryz.prog.wantsStandIn u) = true := by kernel_rfl
        exact (show Tryz.prog.wantsStandIn t = false by simpa using List.all_eq_true.1 hall t hm)⟩)
    (by kernel_rfl)
#print axioms proved
end Go.Proofs.YteejocnogpaifaaGreatDoor.stateGrows
