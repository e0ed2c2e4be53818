/-
  What define of package state answers: a definition stands where its name does.
  Conditions: the state lies in a block and rows of its own; the definition lies in memory; texts are of a moderate size.
-/
import Derived.Test.YteejocnogpaifaaGreatDoorStaIns2
import Derived.Test.YteejocnogpaifaaGreatDoorStaGood3
import Derived.Deep.RegionHeld3
import Derived.Deep.DeepCutAuto
import Derived.BigQuiet
import Derived.Laws.Cover1
namespace Go.Proofs.YteejocnogpaifaaGreatDoor.Tt
open Go.RowKit
open Go.Proofs.YteejocnogpaifaaGreatDoor.El
open Go.Proofs.YteejocnogpaifaaGreatDoor.Df
open Go.Proofs.YteejocnogpaifaaGreatDoor.Bo (P Made ret_int ret_bool)
open Go.Proofs.YteejocnogpaifaaGreatDoor.Sa (Sg Cm)
open Go.Proofs.YteejocnogpaifaaGreatDoor.Co (Ev Mod)

section
variable {w w2 w3 : World} {g R : Nat} {x : SV}
/-- an own row of another type stays where one row turns, and the state's block -/
theorem row_keeps {e : TypeId} {k n : Nat} {v : Value} {xs : List Value} {o : Obj} {q : Option Nat} {u : Value} {i : Nat} (h2 : w2.ownsRow R e k v n xs) (hgR : g < R) (hg : (w2.alloc o).grownBy w3 q) (hq : ∀ b, q = some b → ∃ cur, Box w2 b 33 cur) (he : e ≠ 33) :
    (w3.setCell ⟨g, i, none⟩ u).ownsRow R e k v n xs := own_stay h2 fun j hj => by
  obtain ⟨h1, cur, hc⟩ := own_blk h2 hj
  have hl := hc.lt
  refine (Below.heap_setCell w3 ⟨g, i, none⟩ u j (by show j ≠ g; omega)).trans ((hg.block j (by simp; omega) (fun e => ?_)).trans (Below.heap_alloc w2 o j hl))
  obtain ⟨cur', hc'⟩ := hq j e.symm
  exact (Box.apart hc hc' he) rfl
theorem here_ins {o : Obj} {A' : Option Addr} {c' k : Nat} {y : DX} (h : Here w g R x) (hb2 : Below w.heap.size w w2) (h1 : y.n = y.ss.length) (hm : Mod y.nm y.ss) (ho2 : w2.ownsRow R 54 12 (.slice y.A y.n y.c) y.n (cellsS y.ss))
    (hg3 : (w2.alloc o).grownBy w3 (Value.slice x.AD x.nD x.cD).ownBlock) (hown3 : w3.ownsRow R 33 3 (.slice A' (x.nD + 1) c') (x.nD + 1) ((x.dx.take k ++ y :: x.dx.drop k).flatMap DX.cells)) :
    Here (w3.setCell ⟨g, 0, none⟩ (.slice A' (x.nD + 1) c')) g R ⟨A', x.nD + 1, c', x.AS, x.nS, x.cS, x.nx, x.dx.take k ++ y :: x.dx.drop k, x.gs⟩ ∧ Foot g R w (w3.setCell ⟨g, 0, none⟩ (.slice A' (x.nD + 1) c')) := by
  have h2 := h.below hb2
  have hs3 := hg3.size
  have hq : ∀ b, (Value.slice x.AD x.nD x.cD).ownBlock = some b → ∃ cur, Box w2 b 33 cur := fun b hb => (own_blk h2.own.oD hb).2
  have hgq : (Value.slice x.AD x.nD x.cD).ownBlock ≠ some g := fun e => by have := (own_blk h2.own.oD e).1; have := h.lt; omega
  have hgl := h2.box.lt
  have hbox : Box w3 g 27 x.arr := (hg3.block g (by simp; omega) (fun e => hgq e.symm)).trans (h2.box.alloc o)
  have hlen : (x.dx.take k ++ y :: x.dx.drop k).length = x.nD + 1 := by
    have := hown3.1
    rw [flat_len dx_len] at this
    omega
  have hsz : (w3.setCell ⟨g, 0, none⟩ (.slice A' (x.nD + 1) c')).heap.size = w3.heap.size := by simp [World.setCell]
  refine ⟨⟨hbox.put 0 _, ⟨hlen.symm, h.own.lS, ?_, row_keeps h2.own.oS h.lt hg3 hq (by decide), fun d hd => ?_⟩, h.lt, by have := h2.le; have := hs3; simp at this; omega⟩, ?_⟩
  · exact own_stay hown3 fun i hi => Below.heap_setCell w3 ⟨g, 0, none⟩ _ i (by have := (own_blk hown3 hi).1; have := h.lt; show i ≠ g; omega)
  · have hd' : d ∈ x.dx ∨ d = y := by
      rcases List.mem_append.1 hd with hd | hd
      · exact .inl (List.mem_of_mem_take hd)
      · rcases List.mem_cons.1 hd with hd | hd
        · exact .inr hd
        · exact .inl (List.mem_of_mem_drop hd)
    rcases hd' with hd | rfl
    · exact ⟨(h2.own.oT d hd).1, (h2.own.oT d hd).2.1, row_keeps (h2.own.oT d hd).2.2 h.lt hg3 hq (by decide)⟩
    · exact ⟨h1, hm, row_keeps ho2 h.lt hg3 hq (by decide)⟩
  · have hR := h.le
    refine ((Foot.of_below hb2 hR).trans ((Foot.of_below ((Below.refl w2.heap.size w2).alloc (Nat.le_refl _) o) h2.le).trans (Foot.of_grown hg3 (by simp; have := h2.le; omega) fun i hi => .inl ?_))).put (.inl rfl) 0 _
    exact (own_blk h2.own.oD hi).1
end
/-- what define answers -/
def DefIs (w : World) (g R : Nat) (x : SV) (v : Ev) (e : Ending) (w' : World) : Prop :=
  ∃ y : SV, e = .returned (.int .i64 (defS x.st v).2) ∧ Here w' g R y ∧ y.st = (defS x.st v).1 ∧ Foot g R w w'
theorem defS_there {x : SV} {v : Ev} {i : Nat} (h : findX x.dx v.dn = (i : Int)) : defS x.st v = (x.st, 6) := by
  have : findD x.st.ds v.dn = (i : Int) := (findX_is x.dx v.dn).trans h
  unfold defS
  rw [this, if_pos (by omega)]
theorem defS_full {x : SV} {v : Ev} (h : findX x.dx v.dn = -1) (hl : 64 ≤ x.dx.length) : defS x.st v = (x.st, 8) := by
  have : findD x.st.ds v.dn = -1 := (findX_is x.dx v.dn).trans h
  unfold defS
  rw [this, if_neg (by omega), if_pos (by show 64 ≤ (x.dx.map DX.m).length; rw [List.length_map]; exact hl)]
theorem defS_put {x : SV} {v : Ev} (h : findX x.dx v.dn = -1) (hl : ¬ 64 ≤ x.dx.length) {k : Nat} (hk : k ≤ x.dx.length) (h1 : ∀ j, j < k → ∀ b, x.dx[j]? = some b → ltB b.nm v.dn = true) (h2 : ∀ b, x.dx[k]? = some b → ltB b.nm v.dn = false) {y : DX} (hy : y.m = ⟨v.dn, v.dl, v.ss⟩) :
    defS x.st v = (⟨(x.dx.take k ++ y :: x.dx.drop k).map DX.m, x.gs, x.nx⟩, 0) := by
  have : findD x.st.ds v.dn = -1 := (findX_is x.dx v.dn).trans h
  have hs : spot (x.dx.map DX.m) v.dn = k := spot_is (by rw [List.length_map]; exact hk)
    (fun j hj b hb => by
      rw [List.getElem?_map] at hb
      cases hx : x.dx[j]? with
      | none => rw [hx] at hb; cases hb
      | some d => rw [hx] at hb; cases hb; exact h1 j hj d hx)
    (fun b hb => by
      rw [List.getElem?_map] at hb
      cases hx : x.dx[k]? with
      | none => rw [hx] at hb; cases hb
      | some d => rw [hx] at hb; cases hb; exact h2 d hx)
  unfold defS
  rw [this, if_neg (by omega), if_neg (by show ¬ 64 ≤ (x.dx.map DX.m).length; rw [List.length_map]; exact hl)]
  unfold insD
  show ((⟨(x.dx.map DX.m).take (spot (x.dx.map DX.m) v.dn) ++ _ :: (x.dx.map DX.m).drop (spot (x.dx.map DX.m) v.dn), x.gs, x.nx⟩ : Ms), (0 : Int)) = _
  rw [hs, List.map_append, List.map_cons, List.map_take, List.map_drop, hy]
set_option maxHeartbeats 4000000 in
set_option maxRecDepth 100000 in
theorem define_any (x : SV) (g R : Nat) (v : Ev) (A : Option Addr) (n c : Nat) (w : World) (h : Here w g R x) (hb : x.nD ≤ 1000000) (hn : n = v.ss.length) (hm : Mod v.dn v.ss) (hS : Df.Steps w w.heap.size A v.ss) (h0 : A = none → n = 0 ∧ c = 0) :
    Calls Tryz.prog 17 #[.pointer (some ⟨g, 0, none⟩), .agg #[.string v.dn, .int .i64 v.dl, .slice A n c]] w (DefIs w g R x v) := by
  have hB0 : Below w.heap.size w (w.alloc (.cells #[.string v.dn, .int .i64 v.dl, .slice A n c] 33)) := (Below.refl _ w).alloc (Nat.le_refl _) _
  have HB := Lib.hid hB0
  have HX := Lib.hid (Box.new w 33 #[.string v.dn, .int .i64 v.dl, .slice A n c])
  have HH := Lib.hid (h.below hB0)
  have HD := Lib.hid (And.intro hn (And.intro hm (And.intro (hS.on hB0) h0)))
  have hs0 : (w.alloc (.cells #[.string v.dn, .int .i64 v.dl, .slice A n c] 33)).heap.size = w.heap.size + 1 := by simp
  have HP := Lib.hid (fun u (hu : Below (w.alloc (.cells #[.string v.dn, .int .i64 v.dl, .slice A n c] 33)).heap.size (w.alloc (.cells #[.string v.dn, .int .i64 v.dl, .slice A n c] 33)) u) => placeD_any x.AD x.nD x.cD x.dx v.dn u h.own.lD (by omega) (((h.below hB0).own.sin.on hu).hD))
  have HHw := Lib.hid h
  have hgw : g < w.heap.size := h.box.lt
  have HS0 := Lib.hid hs0
  clear h hn hm hS h0 hB0 hs0
  rcases findX_cases x.dx v.dn with hf | ⟨i, d, hf, _, _, _⟩
  · rw [hf] at HP
    by_cases hl : 64 ≤ x.nD
    · have HF := Lib.hid (defS_full (x := x) (v := v) hf (by rw [← HHw.out.own.lD]; exact hl))
      have hl2 : (64 : Int) ≤ (x.nD : Int) := by omega
      clear hf
      go_enter Tryz.func17, Tryz.ntmps17
      go_upto_region 1 with fail
      generalize w.alloc (.cells #[.string v.dn, .int .i64 v.dl, .slice A n c] 33) = W0 at *
      have hgl : g < W0.heap.size := HH.out.box.lt
      have hwl : w.heap.size < W0.heap.size := HX.out.lt
      have z0 : ∀ u, Below W0.heap.size W0 u → u.cell? ⟨g, 0, none⟩ = some (.slice x.AD x.nD x.cD) := fun u H => (H.cell (p := ⟨g, 0, none⟩) hgl).trans (HH.out.box.cell 0)
      have z1 : ∀ u, Below W0.heap.size W0 u → u.cell? ⟨w.heap.size, 0, none⟩ = some (.string v.dn) := fun u H => (H.cell (p := ⟨w.heap.size, 0, none⟩) hwl).trans (HX.out.cell 0)
      go_region_held3 (fun u => Below W0.heap.size W0 u) (first | exact Below.refl _ _ | exact Below.drew (Below.refl _ _) | assumption)
        ((go_at_call 40; (with_reducible refine (HP.out _ ?_).mono ?_); (first | assumption | exact Below.drew (Below.refl _ _)); rintro e w1 ⟨rfl, hm1⟩; have hw1 : Below W0.heap.size W0 w1 := (Below.drew (Below.refl _ _)).trans hm1.below; have hw2 : Below W0.drew.heap.size W0.drew w1 := hm1.below; clear hm1))
      all_goals
        have c0 := z0 _ hw1
        go_wp2
        go_ret
        exact ⟨x, by rw [HF.out]; rfl, HH.out.below hw1, by rw [HF.out], Foot.of_below (HB.out.trans (hw1.mono HB.out.size)) HHw.out.le⟩
    · have hl2 : ¬ (64 : Int) ≤ (x.nD : Int) := by omega
      have HNF := Lib.hid hf
      have HLL := Lib.hid hl
      clear hf
      go_enter Tryz.func17, Tryz.ntmps17
      go_upto_region 1 with fail
      generalize w.alloc (.cells #[.string v.dn, .int .i64 v.dl, .slice A n c] 33) = W0 at *
      have hgl : g < W0.heap.size := HH.out.box.lt
      have hwl : w.heap.size < W0.heap.size := HX.out.lt
      have z0 : ∀ u, Below W0.heap.size W0 u → u.cell? ⟨g, 0, none⟩ = some (.slice x.AD x.nD x.cD) := fun u H => (H.cell (p := ⟨g, 0, none⟩) hgl).trans (HH.out.box.cell 0)
      have z1 : ∀ u, Below W0.heap.size W0 u → u.cell? ⟨w.heap.size, 0, none⟩ = some (.string v.dn) := fun u H => (H.cell (p := ⟨w.heap.size, 0, none⟩) hwl).trans (HX.out.cell 0)
      go_region_held3 (fun u => Below W0.heap.size W0 u) (first | exact Below.refl _ _ | exact Below.drew (Below.refl _ _) | assumption)
        ((go_at_call 40; (with_reducible refine (HP.out _ ?_).mono ?_); (first | assumption | exact Below.drew (Below.refl _ _)); rintro e w1 ⟨rfl, hm1⟩; have hw1 : Below W0.heap.size W0 w1 := (Below.drew (Below.refl _ _)).trans hm1.below; have hw2 : Below W0.drew.heap.size W0.drew w1 := hm1.below; clear hm1))
      all_goals
        have HW1 := Lib.hid hw1
        have HH1 := Lib.hid (HH.out.below hw1)
        have HX1 := Lib.hid (HX.out.below hw1 hwl)
        have hE1 := HH1.out.own.sin.hD
        have HE := Lib.hid hE1
        have HL := Lib.hid HH1.out.own.lD
        have c0 := z0 _ hw1
        have hg1 : g < w1.heap.size := HH1.out.box.lt
        clear z0 z1 HP hE1 hw2
        go_wp2
        go_loopw [5] (fun vi wr => ∃ k q : Nat, vi = .int .i64 (k : Int) ∧ k ≤ x.nD ∧ wr = w1.drewN q ∧ Hid (∀ j, j < k → ∀ b, x.dx[j]? = some b → ltB b.nm v.dn = true)) (fun vi _ => x.nD - (intOf vi).toNat)
        case atStart => exact ⟨0, 0, rfl, Nat.zero_le _, rfl, Lib.hid fun j hj => absurd hj (by omega)⟩
        case round =>
          obtain ⟨k, q, rfl, hk, hwr, HN⟩ := hrel
          clear c0
          have c0 : wr.cell? ⟨g, 0, none⟩ = some (.slice x.AD x.nD x.cD) := by rw [hwr]; exact HH1.out.box.cell 0
          have d0 : wr.cell? ⟨w.heap.size, 0, none⟩ = some (.string v.dn) := by rw [hwr]; exact HX1.out.cell 0
          have HWR := Lib.hid hwr
          clear hwr
          by_cases hkn : k < x.nD
          · have hkb : decide (k < x.nD) = true := decide_eq_true hkn
            obtain ⟨d, hd⟩ : ∃ d, x.dx[k]? = some d := ⟨_, List.getElem?_eq_getElem (by have := HL.out; omega)⟩
            obtain ⟨sb, so, hA, _⟩ := HE.out.at_ hd
            have e0 : wr.cell? ⟨sb, so + k * 3, none⟩ = some (.string d.nm) := by
              have := HE.out
              rw [hA] at this
              rw [HWR.out]
              exact this.get hd 0 rfl
            rw [hA] at c0
            have HA := Lib.hid hA
            by_cases hlt : ltB d.nm v.dn = true
            · have qs : Op.bytesLess d.nm.toList v.dn.toList = true := by rw [less_lt]; exact hlt
              have HNx : Hid (∀ j, j < k + 1 → ∀ b, x.dx[j]? = some b → ltB b.nm v.dn = true) := Lib.hid fun j hj b hb => by
                by_cases e : j = k
                · subst e
                  rw [hd] at hb
                  injection hb with hb
                  subst hb
                  exact hlt
                · exact HN.out j (by omega) b hb
              clear hlt hd hA
              go_upto_region 6 with fail
              go_quiet (fail)
              have HVe : Hid (wr.drewN nq = w1.drewN (q + nq)) := Lib.hid (by rw [HWR.out, World.drewN_drewN])
              go_wp2
              go_roundw
              case rel => exact ⟨k + 1, q + nq, by go_num, by omega, HVe.out, HNx⟩
              case measure => simp only [intOf]; omega
            · have hlf : ltB d.nm v.dn = false := by simpa using hlt
              have qs : Op.bytesLess d.nm.toList v.dn.toList = false := by rw [less_lt]; exact hlf
              have HPUT : Hid (∀ y : DX, y.m = ⟨v.dn, v.dl, v.ss⟩ → defS x.st v = (⟨(x.dx.take k ++ y :: x.dx.drop k).map DX.m, x.gs, x.nx⟩, 0)) := Lib.hid fun y hy =>
                defS_put HNF.out (by rw [← HHw.out.own.lD]; exact HLL.out) (by have := HL.out; omega) HN.out (fun b hb => by rw [hd] at hb; injection hb with hb; subst hb; exact hlf) hy
              clear hlt hlf hd hA
              go_upto_region 6 with fail
              go_quiet (fail)
              have HVb : Hid (Below w1.heap.size w1 (wr.drewN nq)) := Lib.hid (by rw [HWR.out]; exact ⟨rfl, rfl, rfl, Nat.le_refl _, fun _ _ => rfl⟩)
              go_upto_region 8 with fail
              generalize wr.drewN nq = V at *
              clear c0 d0 e0
              have HVd := Lib.hid (Below.drew HVb.out)
              have HHV := Lib.hid (HH1.out.below HVd.out)
              have HXV := Lib.hid (HX1.out.below HVd.out HX1.out.lt)
              have HBV := Lib.hid ((HB.out.trans (HW1.out.mono HB.out.size)).trans (HVd.out.mono (Nat.le_trans HB.out.size HW1.out.size)))
              have v0 : V.drew.cell? ⟨w.heap.size, 0, none⟩ = some (.string v.dn) := HXV.out.cell 0
              have v1 : V.drew.cell? ⟨w.heap.size, 1, none⟩ = some (.int .i64 v.dl) := HXV.out.cell 1
              have v2 : V.drew.cell? ⟨w.heap.size, 2, none⟩ = some (.slice A n c) := HXV.out.cell 2
              have g0 : V.drew.cell? ⟨g, 0, none⟩ = some (.slice x.AD x.nD x.cD) := HHV.out.box.cell 0
              have HO : Hid (Calls Tryz.prog 34 #[.agg #[.string v.dn, .int .i64 v.dl, .slice A n c]] V.drew (Owned V.drew v.dn v.dl n v.ss)) := Lib.hid
                (Df.own_any v.dn v.dl A c v.ss n V.drew HD.out.1 (by have := HD.out.1; have := HD.out.2.1.2.1; omega) (HD.out.2.2.1.on (HW1.out.trans (HVd.out.mono HW1.out.size))) HD.out.2.2.2)
              go_region_with (first
                | (go_at_call 34; (with_reducible refine HO.out.mono ?_); rintro e w2 ⟨A3, c3, rfl, ho3, hb3⟩; have HO3 := Lib.hid (own_low ho3 (show R ≤ V.drew.heap.size from HHV.out.le)); have HB2 := Lib.hid (HBV.out.trans (hb3.mono (show w.heap.size ≤ V.drew.heap.size from HBV.out.size))); have HH2 := Lib.hid (HHV.out.below hb3); have g20 : w2.cell? ⟨g, 0, none⟩ = some (.slice x.AD x.nD x.cD) := HH2.out.box.cell 0; have f20 := HH2.out.box.frozen 0; have l20 : g < w2.heap.size := HH2.out.box.lt; have HI := Lib.hid (insert_any R x.AD x.nD x.cD x.dx k w2.heap.size ⟨v.dn, v.dl, v.ss, A3, n, c3⟩ (w2.alloc (.cells #[.string v.dn, .int .i64 v.dl, .slice A3 n c3] 33)) HH2.out.own.lD hb (Nat.le_trans HH2.out.le (by simp)) (HH2.out.own.oD.alloc _) (Box.new _ _ _) (fun e => by have := (own_blk HH2.out.own.oD e).2.choose_spec.lt; omega) hk); clear ho3 hb3)
                | (go_at_call 42; (with_reducible refine HI.out.mono ?_); rintro e w3 ⟨A', c', rfl, ho', hg'⟩; have HFIN := Lib.hid (here_ins (y := ⟨v.dn, v.dl, v.ss, A3, n, c3⟩) HHw.out HB2.out HD.out.1 HD.out.2.1 HO3.out hg' ho'); have HG3 : Hid (w3.cell? ⟨g, 0, none⟩ = some (.slice x.AD x.nD x.cD) ∧ w3.frozen? ⟨g, 0, none⟩ = false) := Lib.hid (by
                    have hb : Box w3 g 27 x.arr := (hg'.block g (by simp; omega) (fun e => by have := (own_blk HH2.out.own.oD e.symm).1; have := HH2.out.lt; omega)).trans (HH2.out.box.alloc _)
                    exact ⟨hb.cell 0, hb.frozen 0⟩); obtain ⟨g30, f30⟩ := HG3.out; clear ho' hg'))
              all_goals
                go_wp2
                go_ret
                exact ⟨_, by rw [HPUT.out ⟨v.dn, v.dl, v.ss, A3, n, c3⟩ rfl]; rfl, HFIN.out.1, by rw [HPUT.out ⟨v.dn, v.dl, v.ss, A3, n, c3⟩ rfl]; rfl, HFIN.out.2⟩
          · obtain rfl : k = x.nD := by omega
            have hkb : decide (x.nD < x.nD) = false := by simp
            have HPUT : Hid (∀ y : DX, y.m = ⟨v.dn, v.dl, v.ss⟩ → defS x.st v = (⟨(x.dx.take x.nD ++ y :: x.dx.drop x.nD).map DX.m, x.gs, x.nx⟩, 0)) := Lib.hid fun y hy =>
              defS_put HNF.out (by rw [← HHw.out.own.lD]; exact HLL.out) (by have := HL.out; omega) HN.out (fun b hb => by have := El.at_lt hb; have := HL.out; omega) hy
            go_upto_region 6 with fail
            go_quiet (fail)
            have HVb : Hid (Below w1.heap.size w1 (wr.drewN nq)) := Lib.hid (by rw [HWR.out]; exact ⟨rfl, rfl, rfl, Nat.le_refl _, fun _ _ => rfl⟩)
            go_upto_region 8 with fail
            generalize wr.drewN nq = V at *
            clear c0 d0
            have HVd := Lib.hid (Below.drew HVb.out)
            have HHV := Lib.hid (HH1.out.below HVd.out)
            have HXV := Lib.hid (HX1.out.below HVd.out HX1.out.lt)
            have HBV := Lib.hid ((HB.out.trans (HW1.out.mono HB.out.size)).trans (HVd.out.mono (Nat.le_trans HB.out.size HW1.out.size)))
            have v0 : V.drew.cell? ⟨w.heap.size, 0, none⟩ = some (.string v.dn) := HXV.out.cell 0
            have v1 : V.drew.cell? ⟨w.heap.size, 1, none⟩ = some (.int .i64 v.dl) := HXV.out.cell 1
            have v2 : V.drew.cell? ⟨w.heap.size, 2, none⟩ = some (.slice A n c) := HXV.out.cell 2
            have g0 : V.drew.cell? ⟨g, 0, none⟩ = some (.slice x.AD x.nD x.cD) := HHV.out.box.cell 0
            have HO : Hid (Calls Tryz.prog 34 #[.agg #[.string v.dn, .int .i64 v.dl, .slice A n c]] V.drew (Owned V.drew v.dn v.dl n v.ss)) := Lib.hid
              (Df.own_any v.dn v.dl A c v.ss n V.drew HD.out.1 (by have := HD.out.1; have := HD.out.2.1.2.1; omega) (HD.out.2.2.1.on (HW1.out.trans (HVd.out.mono HW1.out.size))) HD.out.2.2.2)
            go_region_with (first
              | (go_at_call 34; (with_reducible refine HO.out.mono ?_); rintro e w2 ⟨A3, c3, rfl, ho3, hb3⟩; have HO3 := Lib.hid (own_low ho3 (show R ≤ V.drew.heap.size from HHV.out.le)); have HB2 := Lib.hid (HBV.out.trans (hb3.mono (show w.heap.size ≤ V.drew.heap.size from HBV.out.size))); have HH2 := Lib.hid (HHV.out.below hb3); have g20 : w2.cell? ⟨g, 0, none⟩ = some (.slice x.AD x.nD x.cD) := HH2.out.box.cell 0; have f20 := HH2.out.box.frozen 0; have l20 : g < w2.heap.size := HH2.out.box.lt; have HI := Lib.hid (insert_any R x.AD x.nD x.cD x.dx x.nD w2.heap.size ⟨v.dn, v.dl, v.ss, A3, n, c3⟩ (w2.alloc (.cells #[.string v.dn, .int .i64 v.dl, .slice A3 n c3] 33)) HH2.out.own.lD hb (Nat.le_trans HH2.out.le (by simp)) (HH2.out.own.oD.alloc _) (Box.new _ _ _) (fun e => by have := (own_blk HH2.out.own.oD e).2.choose_spec.lt; omega) hk); clear ho3 hb3)
              | (go_at_call 42; (with_reducible refine HI.out.mono ?_); rintro e w3 ⟨A', c', rfl, ho', hg'⟩; have HFIN := Lib.hid (here_ins (y := ⟨v.dn, v.dl, v.ss, A3, n, c3⟩) HHw.out HB2.out HD.out.1 HD.out.2.1 HO3.out hg' ho'); have HG3 : Hid (w3.cell? ⟨g, 0, none⟩ = some (.slice x.AD x.nD x.cD) ∧ w3.frozen? ⟨g, 0, none⟩ = false) := Lib.hid (by
                  have hb : Box w3 g 27 x.arr := (hg'.block g (by simp; omega) (fun e => by have := (own_blk HH2.out.own.oD e.symm).1; have := HH2.out.lt; omega)).trans (HH2.out.box.alloc _)
                  exact ⟨hb.cell 0, hb.frozen 0⟩); obtain ⟨g30, f30⟩ := HG3.out; clear ho' hg'))
            all_goals
              go_wp2
              go_ret
              exact ⟨_, by rw [HPUT.out ⟨v.dn, v.dl, v.ss, A3, n, c3⟩ rfl]; rfl, HFIN.out.1, by rw [HPUT.out ⟨v.dn, v.dl, v.ss, A3, n, c3⟩ rfl]; rfl, HFIN.out.2⟩
  · rw [hf] at HP
    have HF := Lib.hid (defS_there (x := x) (v := v) hf)
    clear hf
    have hne : ((i : Int) == -1) = false := by simp only [beq_eq_false_iff_ne, ne_eq]; omega
    go_enter Tryz.func17, Tryz.ntmps17
    go_upto_region 1 with fail
    generalize w.alloc (.cells #[.string v.dn, .int .i64 v.dl, .slice A n c] 33) = W0 at *
    have hgl : g < W0.heap.size := HH.out.box.lt
    have hwl : w.heap.size < W0.heap.size := HX.out.lt
    have z0 : ∀ u, Below W0.heap.size W0 u → u.cell? ⟨g, 0, none⟩ = some (.slice x.AD x.nD x.cD) := fun u H => (H.cell (p := ⟨g, 0, none⟩) hgl).trans (HH.out.box.cell 0)
    have z1 : ∀ u, Below W0.heap.size W0 u → u.cell? ⟨w.heap.size, 0, none⟩ = some (.string v.dn) := fun u H => (H.cell (p := ⟨w.heap.size, 0, none⟩) hwl).trans (HX.out.cell 0)
    go_region_held3 (fun u => Below W0.heap.size W0 u) (first | exact Below.refl _ _ | exact Below.drew (Below.refl _ _) | assumption)
      ((go_at_call 40; (with_reducible refine (HP.out _ ?_).mono ?_); (first | assumption | exact Below.drew (Below.refl _ _)); rintro e w1 ⟨rfl, hm1⟩; have hw1 : Below W0.heap.size W0 w1 := (Below.drew (Below.refl _ _)).trans hm1.below; have hw2 : Below W0.drew.heap.size W0.drew w1 := hm1.below; clear hm1))
    all_goals
      go_wp2
      go_ret
      exact ⟨x, by rw [HF.out]; rfl, HH.out.below hw1, by rw [HF.out], Foot.of_below (HB.out.trans (hw1.mono HB.out.size)) HHw.out.le⟩
end Go.Proofs.YteejocnogpaifaaGreatDoor.Tt
