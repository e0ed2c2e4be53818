/-
  What own of package state answers: the same state, in rows of its own.
  Conditions: the state lies in memory; its rows are of moderate length.
-/
import Derived.Test.YteejocnogpaifaaGreatDoorStaOwn
import Derived.Test.YteejocnogpaifaaGreatDoorSagMay
import Derived.Deep.DeepCutAuto
import Derived.Deep.CutBlock
import Derived.Deep.RegionLaw
namespace Go.Proofs.YteejocnogpaifaaGreatDoor.Tt
open Go.RowKit
open Go.Proofs.YteejocnogpaifaaGreatDoor.El
open Go.Proofs.YteejocnogpaifaaGreatDoor.Df
open Go.Proofs.YteejocnogpaifaaGreatDoor.Bo (P Made ret_int ret_bool)
open Go.Proofs.YteejocnogpaifaaGreatDoor.Sa (Sg Cm)
open Go.Proofs.YteejocnogpaifaaGreatDoor.Co (Ev Mod)

/-! ### Three cells of a row, written -/
theorem own_cell {w : World} {base : Nat} {e : TypeId} {size r n c : Nat} {xs : List Value} (h : w.ownsRow base e size (.slice (some ⟨r, 0, none⟩) n c) n xs) (j : Nat) (u : Value) : (w.setCell ⟨r, j, none⟩ u).ownsRow base e size (.slice (some ⟨r, 0, none⟩) n c) n (xs.set j u) := by
  obtain ⟨h1, h2⟩ := h
  refine ⟨by simpa using h1, .inr ?_⟩
  rcases h2 with ⟨h3, _⟩ | ⟨g, cap, cur, hv, hg, hh, hc, hm, hs, ht⟩
  · cases h3
  · injection hv with hv1 hv2 hv3
    injection hv1 with hv1
    injection hv1 with hv1
    subst hv1 hv3
    refine ⟨r, c, cur.setIfInBounds j u, rfl, hg, ?_, hc, hm, by simpa using hs, ?_⟩
    · show (w.heap.modify r _)[r]? = _
      rw [Array.getElem?_modify, if_pos rfl, hh]
      rfl
    · rw [← ht, Array.toList_setIfInBounds, List.take_set]
theorem set3 (l : List DX) (y : DX) (i : Nat) (hi : i < l.length) : (((l.flatMap DX.cells).set (i * 3) (.string y.nm)).set (i * 3 + 1) (.int .i64 y.dl)).set (i * 3 + 2) (.slice y.A y.n y.c) = (l.set i y).flatMap DX.cells := by
  induction l generalizing i with
  | nil => simp at hi
  | cons x r ih =>
    cases i with
    | zero => rfl
    | succ i =>
      have e0 : (i + 1) * 3 = i * 3 + 3 := by omega
      have hl : (DX.cells x).length = 3 := rfl
      rw [e0, List.flatMap_cons, List.set_append_right _ _ (by omega), List.set_append_right _ _ (by omega), List.set_append_right _ _ (by omega), hl, List.set_cons_succ, List.flatMap_cons]
      rw [show i * 3 + 3 - 3 = i * 3 by omega, show i * 3 + 3 + 1 - 3 = i * 3 + 1 by omega, show i * 3 + 3 + 2 - 3 = i * 3 + 2 by omega, ih i (by simpa using hi)]
theorem set9 (l : List Sg) (y : Sg) (i : Nat) (hi : i < l.length) : (((((((((l.flatMap sgc).set (i * 9) (.int .i64 y.id)).set (i * 9 + 1) (.string y.dn)).set (i * 9 + 2) (.int .i64 y.st)).set (i * 9 + 3) (.int .i64 y.ph)).set (i * 9 + 4) (.int .i64 y.sp)).set (i * 9 + 5) (.int .i64 y.tr)).set (i * 9 + 6) (.bool y.out)).set (i * 9 + 7) (.int .i64 y.at_)).set (i * 9 + 8) (.int .i64 y.sk) = (l.set i y).flatMap sgc := by
  induction l generalizing i with
  | nil => simp at hi
  | cons x r ih =>
    cases i with
    | zero => rfl
    | succ i =>
      have e0 : (i + 1) * 9 = i * 9 + 9 := by omega
      have hl : (sgc x).length = 9 := rfl
      rw [e0, List.flatMap_cons]
      rw [List.set_append_right _ _ (by omega), List.set_append_right _ _ (by omega), List.set_append_right _ _ (by omega), List.set_append_right _ _ (by omega), List.set_append_right _ _ (by omega), List.set_append_right _ _ (by omega), List.set_append_right _ _ (by omega), List.set_append_right _ _ (by omega), List.set_append_right _ _ (by omega), hl, List.set_cons_succ, List.flatMap_cons]
      rw [show i * 9 + 9 - 9 = i * 9 by omega, show i * 9 + 9 + 1 - 9 = i * 9 + 1 by omega, show i * 9 + 9 + 2 - 9 = i * 9 + 2 by omega, show i * 9 + 9 + 3 - 9 = i * 9 + 3 by omega, show i * 9 + 9 + 4 - 9 = i * 9 + 4 by omega, show i * 9 + 9 + 5 - 9 = i * 9 + 5 by omega, show i * 9 + 9 + 6 - 9 = i * 9 + 6 by omega, show i * 9 + 9 + 7 - 9 = i * 9 + 7 by omega, show i * 9 + 9 + 8 - 9 = i * 9 + 8 by omega, ih i (by simpa using hi)]

/-- in the midst of the copying: the state's block h, the result's behind it, both rows copied, the first k definitions' steps too -/
structure Mid (w wr : World) (x : SV) (A1 : Option Addr) (c1 : Nat) (A2 : Option Addr) (c2 k : Nat) (dy : List DX) : Prop where
  bel : Below w.heap.size w wr
  box : Box wr w.heap.size 27 #[.slice A1 x.nD c1, .slice A2 x.nS c2, .int .i64 x.nx]
  res : Box wr (w.heap.size + 1) 27 #[.slice none 0 0, .slice none 0 0, .int .i64 0]
  oD : wr.ownsRow (w.heap.size + 2) 33 3 (.slice A1 x.nD c1) x.nD (dy.flatMap DX.cells)
  oS : wr.ownsRow (w.heap.size + 2) 49 9 (.slice A2 x.nS c2) x.nS (x.gs.flatMap sgc)
  len : dy.length = x.dx.length
  same : dy.map DX.m = x.dx.map DX.m
  done : ∀ j, j < k → ∀ d, dy[j]? = some d → d.n = d.ss.length ∧ Mod d.nm d.ss ∧ wr.ownsRow (w.heap.size + 2) 54 12 (.slice d.A d.n d.c) d.n (cellsS d.ss)
  todo : ∀ j, k ≤ j → dy[j]? = x.dx[j]?
section
variable {w wr w' : World} {x : SV} {A1 A2 : Option Addr} {c1 c2 k : Nat} {dy : List DX}
theorem Mid.on (h : Mid w wr x A1 c1 A2 c2 k dy) (hb : Below wr.heap.size wr w') : Mid w w' x A1 c1 A2 c2 k dy :=
  ⟨h.bel.trans (hb.mono h.bel.size), h.box.below hb h.box.lt, h.res.below hb h.res.lt, own_stay h.oD fun i hi => hb.block i (own_blk h.oD hi).2.choose_spec.lt, own_stay h.oS fun i hi => hb.block i (own_blk h.oS hi).2.choose_spec.lt, h.len, h.same, fun j hj d hd => ⟨(h.done j hj d hd).1, (h.done j hj d hd).2.1, own_stay (h.done j hj d hd).2.2 fun i hi => hb.block i (own_blk (h.done j hj d hd).2.2 hi).2.choose_spec.lt⟩, h.todo⟩
theorem Mid.cells (h : Mid w wr x A1 c1 A2 c2 k dy) : wr.cell? ⟨w.heap.size, 0, none⟩ = some (.slice A1 x.nD c1) ∧ wr.cell? ⟨w.heap.size, 1, none⟩ = some (.slice A2 x.nS c2) ∧ wr.cell? ⟨w.heap.size, 2, none⟩ = some (.int .i64 x.nx) := ⟨h.box.cell 0, h.box.cell 1, h.box.cell 2⟩
theorem Mid.put {q : Nat} {d y : DX} (h : Mid w wr x (some ⟨q, 0, none⟩) c1 A2 c2 k dy) (hd : dy[k]? = some d) (hm : y.m = d.m) (h1 : y.n = y.ss.length) (h2 : Mod y.nm y.ss)
    (h3 : wr.ownsRow (w.heap.size + 2) 54 12 (.slice y.A y.n y.c) y.n (cellsS y.ss)) :
    Mid w (((wr.setCell ⟨q, k * 3, none⟩ (.string y.nm)).setCell ⟨q, k * 3 + 1, none⟩ (.int .i64 y.dl)).setCell ⟨q, k * 3 + 2, none⟩ (.slice y.A y.n y.c)) x (some ⟨q, 0, none⟩) c1 A2 c2 (k + 1) (dy.set k y) := by
  have hk : k < dy.length := El.at_lt hd
  obtain ⟨hq, cur, hc⟩ := own_blk h.oD (i := q) rfl
  have hrow := own_cell (own_cell (own_cell h.oD (k * 3) (.string y.nm)) (k * 3 + 1) (.int .i64 y.dl)) (k * 3 + 2) (.slice y.A y.n y.c)
  rw [set3 dy y k hk] at hrow
  have hoth : ∀ i, i ≠ q → ((((wr.setCell ⟨q, k * 3, none⟩ (.string y.nm)).setCell ⟨q, k * 3 + 1, none⟩ (.int .i64 y.dl)).setCell ⟨q, k * 3 + 2, none⟩ (.slice y.A y.n y.c)).heap[i]? = wr.heap[i]?) := fun i hi =>
    ((Below.heap_setCell _ ⟨q, k * 3 + 2, none⟩ _ i hi).trans (Below.heap_setCell _ ⟨q, k * 3 + 1, none⟩ _ i hi)).trans (Below.heap_setCell _ ⟨q, k * 3, none⟩ _ i hi)
  have hne : ∀ {t : TypeId} {cs : Array Value} {g : Nat}, Box wr g t cs → t ≠ 33 → g ≠ q := fun hb ht e => by subst e; exact Box.apart hb hc ht rfl
  have hst : ∀ {e : TypeId} {k' n' : Nat} {v : Value} {xs : List Value}, wr.ownsRow (w.heap.size + 2) e k' v n' xs → e ≠ 33 → (((wr.setCell ⟨q, k * 3, none⟩ (.string y.nm)).setCell ⟨q, k * 3 + 1, none⟩ (.int .i64 y.dl)).setCell ⟨q, k * 3 + 2, none⟩ (.slice y.A y.n y.c)).ownsRow (w.heap.size + 2) e k' v n' xs := fun ho he =>
    own_stay ho fun i hi => hoth i (hne (own_blk ho hi).2.choose_spec he)
  refine ⟨below_put (below_put (below_put h.bel (by omega) _ _) (by omega) _ _) (by omega) _ _, (hoth _ (hne h.box (by decide))).trans h.box, (hoth _ (hne h.res (by decide))).trans h.res, hrow, hst h.oS (by decide), by rw [List.length_set, h.len], ?_, fun j hj e he => ?_, fun j hj => ?_⟩
  · rw [← h.same]
    apply List.ext_getElem?
    intro j
    rw [List.getElem?_map, List.getElem?_map, List.getElem?_set]
    split
    · next e =>
      subst e
      rw [hd]
      exact congrArg some hm
    · rfl
  · rw [List.getElem?_set] at he
    split at he
    · next e =>
      injection he with he
      subst he
      exact ⟨h1, h2, hst h3 (by decide)⟩
    · next e =>
      have := h.done j (by omega) _ he
      exact ⟨this.1, this.2.1, hst this.2.2 (by decide)⟩
  · rw [List.getElem?_set_ne (by omega)]
    exact h.todo j (by omega)
theorem Mid.at_ (h : Mid w wr x A1 c1 A2 c2 k dy) (hn : x.nD = x.dx.length) {d : DX} (hd : x.dx[k]? = some d) : dy[k]? = some d ∧ ∃ q, A1 = some ⟨q, 0, none⟩ ∧ wr.cell? ⟨q, k * 3, none⟩ = some (.string d.nm) ∧ wr.cell? ⟨q, k * 3 + 1, none⟩ = some (.int .i64 d.dl) ∧ wr.cell? ⟨q, k * 3 + 2, none⟩ = some (.slice d.A d.n d.c) ∧ q < wr.heap.size ∧ (∀ i, wr.frozen? ⟨q, i, none⟩ = false) := by
  have hk := El.at_lt hd
  have hdy : dy[k]? = some d := (h.todo k (Nat.le_refl _)).trans hd
  obtain ⟨q, cur, rfl, _, hb, _⟩ := own_at h.oD (by omega)
  have hE := els_own (by decide) dx_len h.oD
  have e0 := hE.get hdy 0 rfl
  have e1 := hE.get hdy 1 rfl
  have e2 := hE.get hdy 2 rfl
  rw [Nat.zero_add] at e0 e1 e2
  exact ⟨hdy, q, rfl, e0, e1, e2, hb.lt, hb.frozen⟩
theorem Mid.atq {q : Nat} (h : Mid w wr x (some ⟨q, 0, none⟩) c1 A2 c2 k dy) {d : DX} (hd : dy[k]? = some d) : wr.cell? ⟨q, k * 3, none⟩ = some (.string d.nm) ∧ wr.cell? ⟨q, k * 3 + 1, none⟩ = some (.int .i64 d.dl) ∧ wr.cell? ⟨q, k * 3 + 2, none⟩ = some (.slice d.A d.n d.c) ∧ (∀ i, wr.frozen? ⟨q, i, none⟩ = false) := by
  obtain ⟨_, cur, hb⟩ := own_blk h.oD (i := q) rfl
  have hE := els_own (by decide) dx_len h.oD
  have e0 := hE.get hd 0 rfl
  have e1 := hE.get hd 1 rfl
  have e2 := hE.get hd 2 rfl
  rw [Nat.zero_add] at e0 e1 e2
  exact ⟨e0, e1, e2, hb.frozen⟩
theorem Mid.out (h : Mid w wr x A1 c1 A2 c2 x.nD dy) (hx : SIn w x) : SOwn wr (w.heap.size + 2) ⟨A1, x.nD, c1, A2, x.nS, c2, x.nx, dy, x.gs⟩ :=
  ⟨by show x.nD = dy.length; rw [h.len, hx.lD], hx.lS, h.oD, h.oS, fun d hd => by
    obtain ⟨j, hj⟩ := List.mem_iff_getElem?.1 hd
    have := h.done j (by rw [hx.lD, ← h.len]; exact El.at_lt hj) d hj
    exact ⟨this.1, this.2.1, this.2.2⟩⟩
end
theorem mid_start {w W0 w1 w2 : World} {x : SV} {A1 A2 : Option Addr} {c1 c2 : Nat} (hW : Below w.heap.size w W0) (hs : W0.heap.size = w.heap.size + 2) (hb1 : Box W0 w.heap.size 27 #[.slice x.AD x.nD x.cD, .slice x.AS x.nS x.cS, .int .i64 x.nx])
    (hb2 : Box W0 (w.heap.size + 1) 27 #[.slice none 0 0, .slice none 0 0, .int .i64 0]) (ho1 : w1.ownsRow W0.drew.heap.size 33 3 (.slice A1 x.nD c1) x.nD (x.dx.flatMap DX.cells)) (hu1 : Below W0.drew.heap.size W0.drew w1)
    (ho2 : w2.ownsRow w1.heap.size 49 9 (.slice A2 x.nS c2) x.nS (x.gs.flatMap sgc)) (hu2 : Below w1.heap.size w1 w2) :
    Mid w ((w2.setCell ⟨w.heap.size, 0, none⟩ (.slice A1 x.nD c1)).setCell ⟨w.heap.size, 1, none⟩ (.slice A2 x.nS c2)) x A1 c1 A2 c2 0 x.dx := by
  have hs0 : W0.drew.heap.size = w.heap.size + 2 := hs
  have hs1 := hu1.size
  have hb : ∀ (v : World) (i : Nat) (y : Value), Below w.heap.size w v → Below w.heap.size w (v.setCell ⟨w.heap.size, i, none⟩ y) := fun v i y hv => below_put hv (Nat.le_refl _) i y
  have h2 : Below w.heap.size w w2 := ((Below.drew hW).trans (hu1.mono (by omega))).trans (hu2.mono (by omega))
  have hx : ∀ {t : TypeId} {cs : Array Value} {g : Nat}, Box W0 g t cs → g < W0.heap.size → Box w2 g t cs := fun hbx hg => (show Box W0.drew _ _ _ from hbx).below (hu1.trans (hu2.mono hs1)) (by omega)
  have hne : ∀ i, w.heap.size + 2 ≤ i → (((w2.setCell ⟨w.heap.size, 0, none⟩ (.slice A1 x.nD c1)).setCell ⟨w.heap.size, 1, none⟩ (.slice A2 x.nS c2)).heap[i]? = w2.heap[i]?) := fun i hi =>
    (Below.heap_setCell _ ⟨w.heap.size, 1, none⟩ _ i (by show i ≠ w.heap.size; omega)).trans (Below.heap_setCell _ ⟨w.heap.size, 0, none⟩ _ i (by show i ≠ w.heap.size; omega))
  refine ⟨hb _ _ _ (hb _ _ _ h2), ?_, ?_, ?_, ?_, rfl, rfl, fun j hj => absurd hj (by omega), fun _ _ => rfl⟩
  · exact ((hx hb1 (by omega)).put 0 (.slice A1 x.nD c1)).put 1 (.slice A2 x.nS c2)
  · exact ((hx hb2 (by omega)).far (p := ⟨w.heap.size, 0, none⟩) (by show w.heap.size + 1 ≠ w.heap.size; omega) _).far (p := ⟨w.heap.size, 1, none⟩) (by show w.heap.size + 1 ≠ w.heap.size; omega) _
  · refine own_low (own_stay ho1 fun i hi => ?_) (Nat.le_of_eq hs0.symm)
    obtain ⟨h1, cur, h3⟩ := own_blk ho1 hi
    exact (hne i (by omega)).trans (hu2.block i h3.lt)
  · refine own_low (own_stay ho2 fun i hi => hne i ?_) (by omega)
    have := (own_blk ho2 hi).1
    omega
theorem size_st (cs : Array Value) (h : cs.size = 3) : (Tryz.prog.info? 27).map (·.size) = some cs.size := by
  rw [h]
  kernel_rfl
/-- what own answers -/
def OwnIs (w : World) (x : SV) (e : Ending) (w' : World) : Prop :=
  ∃ y : SV, e = .returned (.agg #[.slice y.AD y.nD y.cD, .slice y.AS y.nS y.cS, .int .i64 y.nx]) ∧ SOwn w' w.heap.size y ∧ y.st = x.st ∧ Below w.heap.size w w'
set_option maxHeartbeats 4000000 in
set_option maxRecDepth 100000 in
theorem own_any16 (x : SV) (w : World) (hx : SIn w x) (hb : x.nD ≤ 1000000) (hb' : x.nS ≤ 1000000000) : Calls Tryz.prog 15 #[.agg #[.slice x.AD x.nD x.cD, .slice x.AS x.nS x.cS, .int .i64 x.nx]] w (OwnIs w x) := by
  have HW := Lib.hid (((Below.refl w.heap.size w).alloc (Nat.le_refl _) (.cells #[.slice x.AD x.nD x.cD, .slice x.AS x.nS x.cS, .int .i64 x.nx] 27)).alloc (by simp) (.cells #[.slice none 0 0, .slice none 0 0, .int .i64 0] 27))
  have HB1 := Lib.hid ((Box.new w 27 #[.slice x.AD x.nD x.cD, .slice x.AS x.nS x.cS, .int .i64 x.nx]).alloc (.cells #[.slice none 0 0, .slice none 0 0, .int .i64 0] 27))
  have HB2 := Lib.hid (Sa.box_new2 w (.cells #[.slice x.AD x.nD x.cD, .slice x.AS x.nS x.cS, .int .i64 x.nx] 27) 27 #[.slice none 0 0, .slice none 0 0, .int .i64 0])
  have HS : Hid ((((w.alloc (.cells #[.slice x.AD x.nD x.cD, .slice x.AS x.nS x.cS, .int .i64 x.nx] 27))).alloc (.cells #[.slice none 0 0, .slice none 0 0, .int .i64 0] 27)).heap.size = w.heap.size + 2) := Lib.hid (by simp)
  have HX := Lib.hid hx
  clear hx
  go_enter Tryz.func15, Tryz.ntmps15
  go_upto_region 1 with fail
  generalize (w.alloc (.cells #[.slice x.AD x.nD x.cD, .slice x.AS x.nS x.cS, .int .i64 x.nx] 27)).alloc (.cells #[.slice none 0 0, .slice none 0 0, .int .i64 0] 27) = W0 at *
  have hl : w.heap.size < W0.heap.size := HB1.out.lt
  have z0 : ∀ u, Below W0.heap.size W0 u → u.cell? ⟨w.heap.size, 0, none⟩ = some (.slice x.AD x.nD x.cD) := fun u H => (H.cell (p := ⟨w.heap.size, 0, none⟩) hl).trans (HB1.out.cell 0)
  have z1 : ∀ u, Below W0.heap.size W0 u → u.cell? ⟨w.heap.size, 1, none⟩ = some (.slice x.AS x.nS x.cS) := fun u H => (H.cell (p := ⟨w.heap.size, 1, none⟩) hl).trans (HB1.out.cell 1)
  have y0 : ∀ u, Below W0.heap.size W0 u → u.frozen? ⟨w.heap.size, 0, none⟩ = false := fun u H => (H.frozen (p := ⟨w.heap.size, 0, none⟩) hl).trans (HB1.out.frozen 0)
  have y1 : ∀ u, Below W0.heap.size W0 u → u.frozen? ⟨w.heap.size, 1, none⟩ = false := fun u H => (H.frozen (p := ⟨w.heap.size, 1, none⟩) hl).trans (HB1.out.frozen 1)
  have b0 := y0 _ (Below.drew (Below.refl W0.heap.size W0))
  have b1 := y1 _ (Below.drew (Below.refl W0.heap.size W0))
  have a0 := z0 _ (Below.drew (Below.refl W0.heap.size W0))
  have a1 := z1 _ (Below.drew (Below.refl W0.heap.size W0))
  have HC : Hid (Calls Tryz.prog 32 #[.slice x.AD x.nD x.cD] W0.drew fun e w' => ∃ v, e = .returned v ∧ ClonedAs W0.drew 33 3 x.nD (x.dx.flatMap DX.cells) v w') := Lib.hid
    (cloneD_any x.AD x.nD x.cD x.dx W0.drew HX.out.lD (by omega) (HX.out.on (Below.drew HW.out)).hD HX.out.zD)
  have HD : Hid (∀ u, Below w.heap.size w u → Calls Tryz.prog 33 #[.slice x.AS x.nS x.cS] u fun e w' => ∃ v, e = .returned v ∧ ClonedAs u 49 9 x.nS (x.gs.flatMap sgc) v w') := Lib.hid fun u hu =>
    cloneS_any x.AS x.nS x.cS x.gs u HX.out.lS hb' (HX.out.on hu).hS HX.out.zS
  clear z0 z1 y0 y1
  go_cut [5] (fun _ wc => ∃ (A1 : Option Addr) (c1 : Nat) (A2 : Option Addr) (c2 : Nat), Hid (Mid w wc x A1 c1 A2 c2 0 x.dx))
  case first =>
    go_region_with (first
      | (go_at_call 32; (with_reducible refine HC.out.mono ?_); rintro e w1 ⟨v1, rfl, ho1, hb1⟩; obtain ⟨A1, c1, rfl⟩ := own_form ho1; have HO1 := Lib.hid ho1; have HU1 := Lib.hid hb1; have HW1 := Lib.hid ((Below.drew HW.out).trans (hb1.mono (show w.heap.size ≤ W0.drew.heap.size from HW.out.size))); have a10 := (hb1.cell (p := ⟨w.heap.size, 0, none⟩) hl).trans a0; have a11 := (hb1.cell (p := ⟨w.heap.size, 1, none⟩) hl).trans a1; have b10 := (hb1.frozen (p := ⟨w.heap.size, 0, none⟩) hl).trans b0; have b11 := (hb1.frozen (p := ⟨w.heap.size, 1, none⟩) hl).trans b1; clear ho1 hb1)
      | (go_at_call 33; (with_reducible refine (HD.out w1 HW1.out).mono ?_); rintro e w2 ⟨v2, rfl, ho2, hb2⟩; obtain ⟨A2, c2, rfl⟩ := own_form ho2; have HO2 := Lib.hid ho2; have HU2 := Lib.hid hb2; have hl1 : w.heap.size < w1.heap.size := Nat.lt_of_lt_of_le hl HU1.out.size; have a20 := (hb2.cell (p := ⟨w.heap.size, 0, none⟩) hl1).trans a10; have a21 := (hb2.cell (p := ⟨w.heap.size, 1, none⟩) hl1).trans a11; have b20 := (hb2.frozen (p := ⟨w.heap.size, 0, none⟩) hl1).trans b10; have b21 := (hb2.frozen (p := ⟨w.heap.size, 1, none⟩) hl1).trans b11; clear ho2 hb2))
    all_goals
      go_wp2
      go_meet
      exact ⟨_, _, _, _, Lib.hid (mid_start HW.out HS.out HB1.out HB2.out HO1.out HU1.out HO2.out HU2.out)⟩
  case rest =>
    obtain ⟨A1, c1, A2, c2, HM⟩ := hcut
    clear HC HD b0 b1 a0 a1 HB1 HB2 HS HW hl
    have HN := Lib.hid HX.out.lD
    obtain ⟨m0, m1, m2⟩ := HM.out.cells
    go_wp2
    go_loopw [16] (fun vi wr => ∃ (k : Nat) (dy : List DX), vi = .int .i64 (k : Int) ∧ k ≤ x.nD ∧ Hid (Mid w wr x A1 c1 A2 c2 k dy)) (fun vi _ => x.nD - (intOf vi).toNat)
    case atStart => exact ⟨0, x.dx, rfl, Nat.zero_le _, HM⟩
    case round =>
      obtain ⟨k, dy, rfl, hk, HI⟩ := hrel
      clear m0 m1 m2 HM
      by_cases hkn : k < x.nD
      · obtain ⟨d, hd⟩ : ∃ d, x.dx[k]? = some d := ⟨_, List.getElem?_eq_getElem (by have := HN.out; omega)⟩
        have hdin := (HX.out.each d (List.mem_of_getElem? hd)).on HI.out.bel
        obtain ⟨hdy, q, rfl, e0, e1, e2, hq, hfz⟩ := HI.out.at_ HN.out hd
        have HDY := Lib.hid hdy
        have HDI := Lib.hid hdin
        obtain ⟨dnm, ddl, dss, dA, dn, dc⟩ := d
        dsimp only at e0 e1 e2
        have HB0 := Lib.hid ((Below.refl wr.heap.size wr).alloc (Nat.le_refl _) (.cells #[.string dnm, .int .i64 ddl, .slice dA dn dc] 33))
        have HBX := Lib.hid (Box.new wr 33 #[.string dnm, .int .i64 ddl, .slice dA dn dc])
        have HI0 := Lib.hid (HI.out.on HB0.out)
        have hwl : w.heap.size < wr.heap.size := HI.out.box.lt
        clear hd hdy hdin
        go_upto_region 5 with fail
        generalize wr.alloc (.cells #[.string dnm, .int .i64 ddl, .slice dA dn dc] 33) = W0 at *
        have b0 : W0.drew.cell? ⟨wr.heap.size, 0, none⟩ = some (.string dnm) := HBX.out.cell 0
        have b1 : W0.drew.cell? ⟨wr.heap.size, 1, none⟩ = some (.int .i64 ddl) := HBX.out.cell 1
        have b2 : W0.drew.cell? ⟨wr.heap.size, 2, none⟩ = some (.slice dA dn dc) := HBX.out.cell 2
        have n0 : W0.drew.cell? ⟨w.heap.size, 0, none⟩ = some (.slice (some ⟨q, 0, none⟩) x.nD c1) := HI0.out.box.cell 0
        have HO : Hid (Calls Tryz.prog 34 #[.agg #[.string dnm, .int .i64 ddl, .slice dA dn dc]] W0.drew (Owned W0.drew dnm ddl dn dss)) := Lib.hid
          (Df.own_any dnm ddl dA dc dss dn W0.drew HDI.out.en (by have := HDI.out.en; have := HDI.out.mod.2.1; dsimp only at *; omega) (HDI.out.on (Below.drew HB0.out)).mem HDI.out.nil)
        go_region_with (go_at_call 34; (with_reducible refine HO.out.mono ?_); rintro e w1 ⟨A3, c3, rfl, ho3, hb3⟩; have HO3 := Lib.hid ho3; have HI1 := Lib.hid (HI0.out.on (show Below W0.heap.size W0 w1 from (Below.drew (Below.refl _ _)).trans hb3)); have n1 : w1.cell? ⟨w.heap.size, 0, none⟩ = some (.slice (some ⟨q, 0, none⟩) x.nD c1) := HI1.out.box.cell 0; obtain ⟨g0, g1, g2, hfq⟩ := HI1.out.atq HDY.out; have f0 := hfq (k * 3); have f1 := hfq (k * 3 + 1); have f2 := hfq (k * 3 + 2); clear ho3 hb3)
        all_goals
          go_wp2
          go_roundw
          case rel => exact ⟨k + 1, _, by go_num, by omega, Lib.hid (HI1.out.put HDY.out (y := ⟨dnm, ddl, dss, A3, dn, c3⟩) rfl HDI.out.en HDI.out.mod (own_low HO3.out (by have := HI0.out.bel.size; have := HI0.out.res.lt; show w.heap.size + 2 ≤ W0.heap.size; omega)))⟩
          case measure => simp only [intOf]; omega
      · obtain rfl : k = x.nD := by omega
        obtain ⟨m0, m1, m2⟩ := HI.out.cells
        have r0 := HI.out.res.cell 0
        have r1 := HI.out.res.cell 1
        have r2 := HI.out.res.cell 2
        have f0 := HI.out.res.frozen 0
        have f1 := HI.out.res.frozen 1
        have f2 := HI.out.res.frozen 2
        simp only [List.getElem?_toArray, List.getElem?_cons_zero, List.getElem?_cons_succ] at r0 r1 r2
        go_wp2
        refine bodyPost_ret (results_cell_row rfl _ _ (w.heap.size + 1) 27 #[.slice A1 x.nD c1, .slice A2 x.nS c2, .int .i64 x.nx] (0, 0) _ rfl ?_ Tryz.underlying27 rfl (size_st _ rfl)) rfl ⟨⟨A1, x.nD, c1, A2, x.nS, c2, x.nx, dy, x.gs⟩, rfl, ?_, ?_, ?_⟩
        · exact ((HI.out.res.put 0 (.slice A1 x.nD c1)).put 1 (.slice A2 x.nS c2)).put 2 (.int .i64 x.nx)
        · have ho := HI.out.out HX.out
          refine (ho.stay fun i hi _ => ?_).low (by omega)
          have hn : ∀ j : Nat, i ≠ (⟨w.heap.size + 1, j, none⟩ : Addr).block := fun j => by show i ≠ w.heap.size + 1; omega
          exact ((Below.heap_setCell _ ⟨w.heap.size + 1, 2, none⟩ _ i (hn 2)).trans (Below.heap_setCell _ ⟨w.heap.size + 1, 1, none⟩ _ i (hn 1))).trans (Below.heap_setCell _ ⟨w.heap.size + 1, 0, none⟩ _ i (hn 0))
        · show (⟨dy.map DX.m, x.gs, x.nx⟩ : Ms) = _
          rw [HI.out.same]
          rfl
        · exact below_put (below_put (below_put HI.out.bel (by omega) _ _) (by omega) _ _) (by omega) _ _
end Go.Proofs.YteejocnogpaifaaGreatDoor.Tt
