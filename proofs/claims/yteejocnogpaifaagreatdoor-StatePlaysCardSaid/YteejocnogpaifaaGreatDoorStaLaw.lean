/-
  The statements' own Short, awake: what they answer.
  Conditions: none.
-/
import Derived.Test.YteejocnogpaifaaGreatDoorStaDo
import Derived.Test.YteejocnogpaifaaGreatDoorStaArg
import Derived.Test.YteejocnogpaifaaGreatDoorMrg2
namespace Go.Proofs.YteejocnogpaifaaGreatDoor.Tt
open Go.RowKit
open Go.Proofs.YteejocnogpaifaaGreatDoor.El
open Go.Proofs.YteejocnogpaifaaGreatDoor.Df
open Go.Proofs.YteejocnogpaifaaGreatDoor.Bo (P Made ret_int ret_bool)
open Go.Proofs.YteejocnogpaifaaGreatDoor.Sa (Sg Cm Rp cm0)
open Go.Proofs.YteejocnogpaifaaGreatDoor.Co (Ev Mod evc EvIn goodE)

def shortI (v : Ev) : Int := if 200 < v.nm.size then 1 else smallI v.dn v.ss
theorem short_yes {v : Ev} (h : shortI v = 0) : v.nm.size ≤ 200 ∧ smallI v.dn v.ss = 0 := by
  unfold shortI at h
  split at h
  · cases h
  · exact ⟨by omega, h⟩
theorem short_mod {v : Ev} (h : shortI v = 0) : Mod v.dn v.ss ∧ v.nm.size ≤ 1000000 := by
  obtain ⟨h1, h2⟩ := short_yes h
  obtain ⟨h3, h4, h5⟩ := small_yes h2
  exact ⟨⟨by omega, by omega, fun s hs => by have := h5 s hs; omega⟩, by omega⟩
set_option maxHeartbeats 1000000 in
set_option maxRecDepth 100000 in
theorem short_any (x : EX) (n : Nat) (hn : n = x.v.ss.length) (w : World) (h : x.Fits w) :
    Calls Tryz.prog 6 #[.agg #[.int .i64 x.v.k, .int .i64 x.v.now, .int .i64 x.v.sg, .string x.v.nm, .int .i64 x.v.r.sg, .int .i64 x.v.r.sp, .bool x.v.r.un, .int .i64 x.v.r.tr, .bool x.v.r.good, .string x.v.dn, .int .i64 x.v.dl, .slice x.A n x.c]] w fun e w' => e = .returned (.int .i64 (shortI x.v)) ∧ Below w.heap.size w w' := by
  have hB0 : Below w.heap.size w (w.alloc (.cells #[.int .i64 x.v.k, .int .i64 x.v.now, .int .i64 x.v.sg, .string x.v.nm, .int .i64 x.v.r.sg, .int .i64 x.v.r.sp, .bool x.v.r.un, .int .i64 x.v.r.tr, .bool x.v.r.good, .string x.v.dn, .int .i64 x.v.dl, .slice x.A n x.c] 35)) := (Below.refl _ w).alloc (Nat.le_refl _) _
  have HB := Lib.hid hB0
  have HS := Lib.hid (small_any x.v.dn x.v.dl x.A x.c x.v.ss n (w.alloc (.cells #[.int .i64 x.v.k, .int .i64 x.v.now, .int .i64 x.v.sg, .string x.v.nm, .int .i64 x.v.r.sg, .int .i64 x.v.r.sp, .bool x.v.r.un, .int .i64 x.v.r.tr, .bool x.v.r.good, .string x.v.dn, .int .i64 x.v.dl, .slice x.A n x.c] 35)) hn (by have := h.len; omega) h.dn h.each (h.mem.on hB0))
  have hz := h.nm
  clear h hn hB0
  by_cases hl : 200 < x.v.nm.size
  · have HR : Hid (shortI x.v = 1) := Lib.hid (by unfold shortI; rw [if_pos hl])
    go_enter Tryz.func6, Tryz.ntmps6
    go_wp2
    go_ret
    exact ⟨by rw [HR.out]; rfl, HB.out⟩
  · have HR : Hid (shortI x.v = smallI x.v.dn x.v.ss) := Lib.hid (by unfold shortI; rw [if_neg hl])
    go_enter Tryz.func6, Tryz.ntmps6
    go_wp2_with (go_at_call 14; (with_reducible refine HS.out.mono ?_); rintro e w1 ⟨rfl, hm⟩; have HM := Lib.hid hm; clear hm)
    go_ret
    exact ⟨by rw [HR.out]; rfl, HB.out.trans (HM.out.below.mono HB.out.size)⟩

def stp0 : Stp := ⟨⟨#[98]⟩, ⟨#[99]⟩, 1, ⟨0, 1, 1, 1⟩, ⟨0, 1, 1, 1⟩, 0⟩
def ev0 : Ev := ⟨0, 0, 0, ⟨#[]⟩, ⟨0, 0, false, 0, false⟩, ⟨#[97]⟩, 0, [stp0]⟩
def ev1 : Ev := ⟨1, 0, 0, ⟨#[97]⟩, ⟨0, 0, false, 0, false⟩, ⟨#[]⟩, 0, []⟩
def sv0 : SV := ⟨none, 0, 0, none, 0, 0, 0, [], []⟩
def ms1 : Ms := ⟨[⟨⟨#[97]⟩, 0, [stp0]⟩], [], 0⟩
theorem do_1 : doS sv0.st ev0 5 = (ms1, cm0, 0) := by kernel_rfl
theorem do_2 : doS ms1 ev1 5 = (⟨ms1.ds, [Sa.beginS ⟨#[97]⟩ 0 0], 1⟩, cm0, 0) := by kernel_rfl
theorem inv_1 : Inv ms1 := by
  have h := inv_do (x := sv0.st) (v := ev0) (lim := 5) inv0 (by refine ⟨by decide, by decide, fun s hs => ?_⟩; rw [List.mem_singleton.1 hs]; decide)
  rw [do_1] at h
  exact h
theorem sin_0 (w : World) : SIn w sv0 := ⟨rfl, Nat.le_refl _, fun i a h => by simp [sv0] at h, fun d h => by simp [sv0] at h, fun _ => ⟨rfl, rfl⟩, rfl, Nat.le_refl _, fun i a h => by simp [sv0] at h, fun _ => ⟨rfl, rfl⟩⟩
theorem first_do (w : World) (b : Nat) (ht : Df.Tab w) (hb : Box w b 54 stp0.cells.toArray) :
    Calls Tryz.prog 7 #[.agg #[.slice none 0 0, .slice none 0 0, .int .i64 0], .agg #[.int .i64 0, .int .i64 0, .int .i64 0, .string ⟨#[]⟩, .int .i64 0, .int .i64 0, .bool false, .int .i64 0, .bool false, .string ⟨#[97]⟩, .int .i64 0, .slice (some ⟨b, 0, none⟩) 1 1], .int .i64 5] w
      fun e w' => ∃ y : SV, e = .returned (.tuple #[.agg #[.slice y.AD y.nD y.cD, .slice y.AS y.nS y.cS, .int .i64 y.nx], .agg #[.int .i64 0, .int .i64 0, .bool false, .int .i64 0, .string ⟨#[]⟩, .string ⟨#[]⟩], .int .i64 0]) ∧ SIn w' y ∧ y.st = ms1 ∧ Below w.heap.size w w' := by
  have hst : Df.Steps w w.heap.size (some ⟨b, 0, none⟩) [stp0] := fun i s hs => by
    cases i with
    | zero =>
      simp only [List.getElem?_cons_zero, Option.some.injEq] at hs
      subst hs
      refine ⟨b, 0, rfl, hb.lt, fun j u hj => ?_⟩
      have := hb.cell j
      rw [Nat.zero_mul, Nat.add_zero, Nat.zero_add, this]
      simpa using hj
    | succ i => simp at hs
  refine (do_any16 sv0 ev0 (some ⟨b, 0, none⟩) 1 1 5 w (sin_0 w) inv0 (by decide) ⟨rfl, Nat.le_refl _, ⟨by decide, by decide, fun s hs => by rw [List.mem_singleton.1 hs]; decide⟩, by decide, hst⟩ (fun h => by cases h) ht).mono ?_
  rintro e w' ⟨y, rfl, h1, h2, h3⟩
  rw [do_1] at h2 ⊢
  exact ⟨y, rfl, h1.sin, h2, h3⟩
theorem second_do (w : World) (y : SV) (ht : Df.Tab w) (hy : SIn w y) (hs : y.st = ms1) :
    Calls Tryz.prog 7 #[.agg #[.slice y.AD y.nD y.cD, .slice y.AS y.nS y.cS, .int .i64 y.nx], .agg #[.int .i64 1, .int .i64 0, .int .i64 0, .string ⟨#[97]⟩, .int .i64 0, .int .i64 0, .bool false, .int .i64 0, .bool false, .string ⟨#[]⟩, .int .i64 0, .slice none 0 0], .int .i64 5] w
      fun e w' => ∃ z : SV, e = .returned (.tuple #[.agg #[.slice z.AD z.nD z.cD, .slice z.AS 1 z.cS, .int .i64 1], .agg #[.int .i64 0, .int .i64 0, .bool false, .int .i64 0, .string ⟨#[]⟩, .string ⟨#[]⟩], .int .i64 0]) ∧ Below w.heap.size w w' := by
  have hS : y.nS ≤ 1000000000 := by
    have h1 := hy.lS
    have h2 : y.gs = [] := congrArg Ms.gs hs
    rw [h2] at h1
    rw [h1]
    decide
  refine (do_any16 y ev1 none 0 0 5 w hy (by rw [hs]; exact inv_1) hS ⟨rfl, Nat.le_refl _, ⟨by decide, by decide, fun s hs => by cases hs⟩, by decide, fun i s h => by simp [ev1] at h⟩ (fun _ => ⟨rfl, rfl⟩) ht).mono ?_
  rintro e w' ⟨z, rfl, h1, h2, h3⟩
  rw [hs, do_2] at h2 ⊢
  have hg : z.gs = [Sa.beginS ⟨#[97]⟩ 0 0] := congrArg Ms.gs h2
  have hn : z.nS = 1 := by rw [h1.lS, hg]; rfl
  have hx : z.nx = 1 := congrArg Ms.nx h2
  refine ⟨z, ?_, h3⟩
  unfold SV.arr
  rw [hn, hx]
  rfl
theorem below_al3 (w : World) (o o' o2 : Obj) : Below w.heap.size w (((w.alloc o).alloc o').alloc o2) := (below_al2 w o o').trans ((below_al ((w.alloc o).alloc o') o2).mono (by simp; omega))
theorem box_mid (w : World) (o o2 : Obj) (t : TypeId) (cs : Array Value) : Box (((w.alloc o).alloc (.cells cs t)).alloc o2) (w.heap.size + 1) t cs := (box_new2 w o t cs).alloc o2
set_option maxHeartbeats 2000000 in
set_option maxRecDepth 100000 in
theorem awake16_any (w : World) (ht : Df.Tab w) : Calls Tryz.prog 5 #[] w fun e w' => e = .returned (.bool true) ∧ Below w.heap.size w w' := by
  have HT := Lib.hid (fun W (hW : Below w.heap.size w W) => tab_below ht hW)
  clear ht
  go_enter Tryz.func5, Tryz.ntmps5
  go_upto_region 4 with (go_at_call 7; refine (first_do _ (w.heap.size + 1) (HT.out _ (below_al3 w _ _ _)) (box_mid w _ _ _ _)).mono ?_; rintro e w1 ⟨y, rfl, hy, hs, hb⟩; have HB1 : Hid (Below w.heap.size w w1) := Lib.hid ((below_al3 w _ _ _).trans (hb.mono (below_al3 w _ _ _).size)); have HY := Lib.hid hy; have HS := Lib.hid hs; clear hy hs hb)
  have HLE : Hid (w.heap.size ≤ w1.heap.size) := Lib.hid HB1.out.size
  have HX := Lib.hid (box_al2 w1 27 #[.slice y.AD y.nD y.cD, .slice y.AS y.nS y.cS, .int .i64 y.nx] (.cells #[.int .i64 0, .int .i64 0, .bool false, .int .i64 0, .string ⟨#[]⟩, .string ⟨#[]⟩] 37))
  have HBW : Hid (Below w.heap.size w ((w1.alloc (.cells #[.slice y.AD y.nD y.cD, .slice y.AS y.nS y.cS, .int .i64 y.nx] 27)).alloc (.cells #[.int .i64 0, .int .i64 0, .bool false, .int .i64 0, .string ⟨#[]⟩, .string ⟨#[]⟩] 37))) := Lib.hid (HB1.out.trans ((below_al2 w1 _ _).mono HB1.out.size))
  have HY1 := Lib.hid (HY.out.on (below_al2 w1 (.cells #[.slice y.AD y.nD y.cD, .slice y.AS y.nS y.cS, .int .i64 y.nx] 27) (.cells #[.int .i64 0, .int .i64 0, .bool false, .int .i64 0, .string ⟨#[]⟩, .string ⟨#[]⟩] 37)))
  clear HY HB1
  generalize ((w1.alloc (.cells #[.slice y.AD y.nD y.cD, .slice y.AS y.nS y.cS, .int .i64 y.nx] 27)).alloc (.cells #[.int .i64 0, .int .i64 0, .bool false, .int .i64 0, .string ⟨#[]⟩, .string ⟨#[]⟩] 37)) = W1 at *
  generalize hgb : w1.heap.size = b at *
  clear hgb
  have c0 : W1.cell? ⟨b, 0, none⟩ = some (.slice y.AD y.nD y.cD) := HX.out.cell 0
  have c1 : W1.cell? ⟨b, 1, none⟩ = some (.slice y.AS y.nS y.cS) := HX.out.cell 1
  have c2 : W1.cell? ⟨b, 2, none⟩ = some (.int .i64 y.nx) := HX.out.cell 2
  have hbl := HX.out.lt
  go_upto_region 5 with (first
    | (go_at_call 7; refine (second_do _ y (HT.out _ HBW.out) HY1.out HS.out).mono ?_; rintro e w2 ⟨z, rfl, hb⟩; have H2 := Lib.hid hb; have HX2 := Lib.hid (HX.out.below hb HX.out.lt); have hne : b ≠ w2.heap.size := (by have := HX2.out.lt; omega); clear hb)
    | (refine wpList_store_row rfl 27 _ _ rfl b 27 #[.slice y.AD y.nD y.cD, .slice y.AS y.nS y.cS, .int .i64 y.nx] #[.slice z.AD z.nD z.cD, .slice z.AS 1 z.cS, .int .i64 1] rfl rfl (HX2.out.alloc _) (by show (Tryz.prog.info? 27).map (·.size) = some 3; kernel_rfl) rfl (by simp [Value.oneCell']) ?_)
    | (refine wpList_store_row rfl 37 _ _ rfl w2.heap.size 37 #[.int .i64 0, .int .i64 0, .bool false, .int .i64 0, .string ⟨#[]⟩, .string ⟨#[]⟩] #[.int .i64 0, .int .i64 0, .bool false, .int .i64 0, .string ⟨#[]⟩, .string ⟨#[]⟩] rfl rfl (Sa.box_far (Box.new w2 _ _) (Ne.symm hne) _) (Sa.sizeC cm0) rfl (Sa.oneC cm0) ?_))
  have HX3 := Lib.hid (Sa.box_far (Sa.box_row (HX2.out.alloc (.cells #[.int .i64 0, .int .i64 0, .bool false, .int .i64 0, .string ⟨#[]⟩, .string ⟨#[]⟩] 37)) #[.slice z.AD z.nD z.cD, .slice z.AS 1 z.cS, .int .i64 1]) hne #[.int .i64 0, .int .i64 0, .bool false, .int .i64 0, .string ⟨#[]⟩, .string ⟨#[]⟩])
  have HB3 := Lib.hid (Sa.below_row (Sa.below_row ((HBW.out.trans (H2.out.mono HBW.out.size)).trans ((below_al w2 (.cells #[.int .i64 0, .int .i64 0, .bool false, .int .i64 0, .string ⟨#[]⟩, .string ⟨#[]⟩] 37)).mono (Nat.le_trans HBW.out.size H2.out.size))) (show w.heap.size ≤ b from HLE.out) #[.slice z.AD z.nD z.cD, .slice z.AS 1 z.cS, .int .i64 1]) (Nat.le_trans HBW.out.size H2.out.size) #[.int .i64 0, .int .i64 0, .bool false, .int .i64 0, .string ⟨#[]⟩, .string ⟨#[]⟩])
  clear c0 c1 c2
  generalize ((w2.alloc (.cells #[.int .i64 0, .int .i64 0, .bool false, .int .i64 0, .string ⟨#[]⟩, .string ⟨#[]⟩] 37)).setRow b #[.slice z.AD z.nD z.cD, .slice z.AS 1 z.cS, .int .i64 1]).setRow w2.heap.size #[.int .i64 0, .int .i64 0, .bool false, .int .i64 0, .string ⟨#[]⟩, .string ⟨#[]⟩] = W3 at *
  have c1 : W3.cell? ⟨b, 1, none⟩ = some (.slice z.AS 1 z.cS) := HX3.out.cell 1
  have c2 : W3.cell? ⟨b, 2, none⟩ = some (.int .i64 1) := HX3.out.cell 2
  go_wp2
  go_ret
  exact ⟨rfl, HB3.out⟩
end Go.Proofs.YteejocnogpaifaaGreatDoor.Tt
