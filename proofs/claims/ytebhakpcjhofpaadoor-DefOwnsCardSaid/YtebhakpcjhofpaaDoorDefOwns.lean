/-
  The statement DefOwnsCardSaid: for every input the law function DefOwns returns true (what is done with a copy leaves the definition as it was; a later start never ends earlier), and the arguments read afterwards as before.
  Conditions: none beyond the statement's own (the listed tables of the library hold what its text lays).
-/
import Derived.Test.YtebhakpcjhofpaaDoorDefCheck
import Derived.Test.YtebhakpcjhofpaaDoorDefAwake
import Derived.BigQuiet
import Derived.Deep.QuietTactic
import Derived.Shelf.SlSortCmp.QuietGrown
namespace Go.Proofs.YtebhakpcjhofpaaDoor.defOwns
open Go.Proofs.YtebhakpcjhofpaaDoor.Df Go.Proofs.YtebhakpcjhofpaaDoor.El
open Go.Proofs.YtebhakpcjhofpaaDoor.Bo (P Made ret_int ret_bool)
open Go.ChangeShapes Go.WideShapes Go.ChangeAt Go.RowKit
open Go.ChangeMaps (open_string shut_string)

/-- a cell of an own row is written -/
theorem row_set {w : World} {base : Nat} {e : TypeId} {size r n c : Nat} {xs : List Value} (h : w.ownsRow base e size (.slice (some ⟨r, 0, none⟩) n c) n xs) (j : Nat) (u : Value) : (w.setCell ⟨r, j, none⟩ u).ownsRow base e size (.slice (some ⟨r, 0, none⟩) n c) n (xs.set j u) := by
  obtain ⟨h1, h2⟩ := h
  refine ⟨by simpa using h1, .inr ?_⟩
  rcases h2 with ⟨h3, _⟩ | ⟨g, cap, cur, hv, hg, hh, hc, hm, hs, ht⟩
  · cases h3
  · injection hv with hv1 hv2 hv3
    injection hv1 with hv1
    injection hv1 with hv1
    subst hv1 hv3
    refine ⟨r, c, cur.setIfInBounds j u, rfl, hg, ?_, hc, hm, by simpa using hs, ?_⟩
    · show (w.heap.modify r _)[r]? = _
      rw [Array.getElem?_modify, if_pos rfl, hh]
      rfl
    · rw [← ht, Array.toList_setIfInBounds, List.take_set]
theorem own_block {w : World} {base : Nat} {e : TypeId} {k : Nat} {v : Value} {n i : Nat} {xs : List Value} (h : w.ownsRow base e k v n xs) (hi : v.ownBlock = some i) : base ≤ i ∧ ∃ cur, Box w i e cur := by
  rcases h.2 with ⟨rfl, _⟩ | ⟨g, c, cur, rfl, hb, hg, _⟩
  · simp [Value.ownBlock] at hi
  · simp only [Value.ownBlock, Option.some.injEq] at hi
    subst hi
    exact ⟨hb, cur, hg⟩
theorem row_stay {w w' : World} {base : Nat} {e : TypeId} {k : Nat} {v : Value} {n : Nat} {xs : List Value} (h : w.ownsRow base e k v n xs) (hb : ∀ i, v.ownBlock = some i → w'.heap[i]? = w.heap[i]?) : w'.ownsRow base e k v n xs := by
  obtain ⟨h1, h2⟩ := h
  refine ⟨h1, h2.imp id ?_⟩
  rintro ⟨q, c, cur, rfl, hq, hh, rest⟩
  exact ⟨q, c, cur, rfl, hq, (hb q rfl).trans hh, rest⟩
theorem row_base {w : World} {base base' : Nat} {e : TypeId} {k : Nat} {v : Value} {n : Nat} {xs : List Value} (h : w.ownsRow base e k v n xs) (hb : base' ≤ base) : w.ownsRow base' e k v n xs := own_kept h hb fun _ _ => rfl
/-- where the law stands: the definition, its copy and what it was, each in a block and a row of its own -/
structure At (w wr : World) (nm : ByteArray) (dl : Int) (n : Nat) (ss : List Stp) (A0 : Option Addr) (c0 : Nat) (A2 : Option Addr) (c2 : Nat) (A3 : Option Addr) (c3 g1 g2 : Nat) (ts : List Stp) : Prop where
  bel : Below w.heap.size w wr
  b0 : Box wr w.heap.size 24 (dcells nm dl A0 n c0)
  b1 : Box wr g1 24 (dcells nm dl A2 n c2)
  b2 : Box wr g2 24 (dcells nm dl A3 n c3)
  own : wr.ownsRow (w.heap.size + 1) 45 12 (.slice A2 n c2) n (cellsS ts)
  was : wr.ownsRow (w.heap.size + 1) 45 12 (.slice A3 n c3) n (cellsS ss)
  ne : ∀ i j, (Value.slice A2 n c2).ownBlock = some i → (Value.slice A3 n c3).ownBlock = some j → i ≠ j
section
variable {w wr : World} {nm : ByteArray} {dl : Int} {n : Nat} {ss : List Stp} {A0 : Option Addr} {c0 : Nat} {A2 : Option Addr} {c2 : Nat} {A3 : Option Addr} {c3 g1 g2 : Nat} {ts : List Stp}
theorem At.drewN (h : At w wr nm dl n ss A0 c0 A2 c2 A3 c3 g1 g2 ts) (m : Nat) : At w (wr.drewN m) nm dl n ss A0 c0 A2 c2 A3 c3 g1 g2 ts :=
  ⟨h.bel.trans ⟨rfl, rfl, rfl, Nat.le_refl _, fun _ _ => rfl⟩, h.b0, h.b1, h.b2, row_stay h.own fun _ _ => rfl, row_stay h.was fun _ _ => rfl, h.ne⟩
/-- the copy's row, where there is a step -/
theorem At.live (h : At w wr nm dl n ss A0 c0 A2 c2 A3 c3 g1 g2 ts) (hn : 0 < n) : ∃ r, A2 = some ⟨r, 0, none⟩ := by
  rcases h.own.2 with ⟨_, h0⟩ | ⟨r, c, cur, hv, _⟩
  · omega
  · injection hv with hv
    exact ⟨r, hv⟩
theorem At.put {r k : Nat} {x x' : Stp} {u : Value} (h : At w wr nm dl n ss A0 c0 (some ⟨r, 0, none⟩) c2 A3 c3 g1 g2 ts) (hx : ts[k]? = some x) (he : x'.cells = x.cells.set 0 u) : At w (wr.setCell ⟨r, k * 12, none⟩ u) nm dl n ss A0 c0 (some ⟨r, 0, none⟩) c2 A3 c3 g1 g2 (ts.set k x') := by
  obtain ⟨hr, cur, hc⟩ := own_block h.own (i := r) rfl
  have hrow := row_set h.own (k * 12 + 0) u
  rw [cellsS_set ts k 0 u (by omega) hx he, Nat.add_zero] at hrow
  refine ⟨below_put h.bel (by omega) _ _, h.b0.far (h.b0.apart hc (by decide)) _, h.b1.far (h.b1.apart hc (by decide)) _, h.b2.far (h.b2.apart hc (by decide)) _, hrow, row_stay h.was fun i hi => Below.heap_setCell wr ⟨r, k * 12, none⟩ u i ?_, h.ne⟩
  exact fun e => h.ne r i rfl hi e.symm
theorem At.steps (h : At w wr nm dl n ss A0 c0 A2 c2 A3 c3 g1 g2 ts) : Df.Steps wr wr.heap.size A2 ts := steps_own h.own
theorem At.frozen {r : Nat} (h : At w wr nm dl n ss A0 c0 (some ⟨r, 0, none⟩) c2 A3 c3 g1 g2 ts) (i : Nat) : wr.frozen? ⟨r, i, none⟩ = false := by
  obtain ⟨_, cur, hc⟩ := own_block h.own (i := r) rfl
  exact hc.frozen i
end
/-- a definition's cells, whatever has been made since -/
theorem dall {w : World} {g : Nat} {nm : ByteArray} {dl : Int} {A : Option Addr} {n c : Nat} (h : Box w g 24 (dcells nm dl A n c)) :
    (∀ n os, (Go.Sort.grow (w.drewN n) os).cell? ⟨g, 0, none⟩ = some (.string nm)) ∧ (∀ n os, (Go.Sort.grow (w.drewN n) os).cell? ⟨g, 1, none⟩ = some (.int .i64 dl)) ∧ (∀ m os, (Go.Sort.grow (w.drewN m) os).cell? ⟨g, 2, none⟩ = some (.slice A n c)) :=
  ⟨fun n os => cell_grown h.lt (Dc0 h) n os, fun n os => cell_grown h.lt (Dc1 h) n os, fun n os => cell_grown h.lt (Dc2 h) n os⟩
theorem grown_below (w : World) (n : Nat) (os : Array Obj) : Below w.heap.size w (Go.Sort.grow (w.drewN n) os) := Made.below ⟨n, os, rfl⟩
theorem sameB_self (nm : ByteArray) (dl : Int) (ss : List Stp) : sameB nm nm dl dl ss ss = true := by simp [sameB]
set_option maxHeartbeats 4000000 in
set_option maxRecDepth 100000 in
theorem walk (nm0 : ByteArray) (dl0 : Int) (A0 : Option Addr) (c0 : Nat) (ss0 : List Stp) (a b m : Int) (w : World)
    (hm : w.cell? ⟨0, 0, none⟩ = some (.int .i64 m)) (hT : Tab w) (z0 : nm0.size ≤ 9223372036854775807) (l0 : ss0.length ≤ 9223372036854775807) (f0 : ∀ s ∈ ss0, s.Fits) (e0 : Df.Steps w w.heap.size A0 ss0) (u0 : A0 = none → ss0 = [] ∧ c0 = 0) :
    Calls Tryd.prog 6 #[.agg #[.string nm0, .int .i64 dl0, .slice A0 ss0.length c0], .int .i64 a, .int .i64 b] w fun e w' => e = .returned (.bool true) ∧ Below w.heap.size w w' := by
  obtain ⟨n0, hn0⟩ : ∃ n, n = ss0.length := ⟨_, rfl⟩
  rw [← hn0] at l0 ⊢
  have hwb : Hid (Below w.heap.size w (w.alloc (.cells #[.string nm0, .int .i64 dl0, .slice A0 n0 c0] 24))) := Lib.hid ((Below.refl _ w).alloc (Nat.le_refl _) _)
  have hz0 : (w.alloc (.cells #[.string nm0, .int .i64 dl0, .slice A0 n0 c0] 24)).heap.size = w.heap.size + 1 := by simp
  have HA : Hid (∀ w', Below w.heap.size w w' → Calls Tryd.prog 7 #[] w' fun e w'' => e = .returned (.bool true) ∧ Below w'.heap.size w' w'') := Lib.hid fun w' h => awake_any m w' ((h.cell (World.block_lt_of_cell? _ _ hm)).trans hm) (tab_below hT h)
  have HS0 : Hid (∀ w', Below w.heap.size w w' → Calls Tryd.prog 8 #[.agg #[.string nm0, .int .i64 dl0, .slice A0 n0 c0]] w' fun e w'' => e = .returned (.int .i64 (smallI nm0 ss0)) ∧ Made w' w'') := Lib.hid fun w' h => small_any nm0 dl0 A0 c0 ss0 n0 w' hn0 l0 z0 f0 (e0.on h)
  have HB := Lib.hid (Below.refl (w.heap.size + 1) (w.alloc (.cells #[.string nm0, .int .i64 dl0, .slice A0 n0 c0] 24)))
  have E0 := Lib.hid e0
  have HN0 := Lib.hid hn0
  have U0 := Lib.hid u0
  clear hm hT e0 hn0 u0 f0
  by_cases q0 : smallI nm0 ss0 = 0
  · rw [q0] at HS0
    obtain ⟨s40, snm, sst⟩ := small_yes q0
    have SST := Lib.hid sst
    have HOw : Hid (∀ w', Below w.heap.size w w' → Calls Tryd.prog 11 #[.agg #[.string nm0, .int .i64 dl0, .slice A0 n0 c0]] w' (Owned w' nm0 dl0 n0 ss0)) := Lib.hid fun w' h => own_any nm0 dl0 A0 c0 ss0 n0 w' HN0.out (by have := HN0.out; omega) (E0.out.on h) (fun hA => by obtain ⟨h1, h2⟩ := U0.out hA; exact ⟨by rw [HN0.out, h1]; rfl, h2⟩)
    have L0 : n0 ≤ 40 := by have := HN0.out; omega
    unfold Owned at HOw
    clear q0 s40 snm sst l0
    go_enter Tryd.func6, Tryd.ntmps6
    go_wp2_with (first
      | (go_at_call 7; (with_reducible refine (HA.out _ hwb.out).mono ?_); rintro e w1 ⟨rfl, hb⟩; have HB1 := Lib.hid (HB.out.trans (hb.mono (by omega))); clear hb; have HW1 := Lib.hid (hwb.out.trans (HB1.out.mono (by omega))); have x0 := Dc0 (dbox HB1.out); have x1 := Dc1 (dbox HB1.out); have x2 := Dc2 (dbox HB1.out))
      | (go_at_call 8; (with_reducible refine (HS0.out _ HW1.out).mono ?_); rintro e w2 ⟨rfl, hm⟩; have HB2 := Lib.hid (HB1.out.trans (hm.below.mono (by have := HB1.out.size; omega))); clear hm; have HW2 := Lib.hid (hwb.out.trans (HB2.out.mono (by omega))); have x0 := Dc0 (dbox HB2.out); have x1 := Dc1 (dbox HB2.out); have x2 := Dc2 (dbox HB2.out))
      | (go_at_call 11; (with_reducible refine (HOw.out _ HW2.out).mono ?_); rintro e w3 ⟨A2, c2, rfl, ho, hb⟩; have HO := Lib.hid ho; have HB3 := Lib.hid (HB2.out.trans (hb.mono (by have := HB2.out.size; omega))); have hsz2 : w.heap.size + 1 ≤ w2.heap.size := (by have := HB2.out.size; omega); have hlt3 : w.heap.size < w3.heap.size := (by have := HB3.out.size; omega); clear hb ho; have HW3 := Lib.hid (hwb.out.trans ((HB3.out.alloc (by omega) (.cells #[.string nm0, .int .i64 dl0, .slice A2 n0 c2] 24)).mono (by omega))); have x0 := Dc0 (dbox HB3.out); have x1 := Dc1 (dbox HB3.out); have x2 := Dc2 (dbox HB3.out))
      | (go_at_call 11; (with_reducible refine (HOw.out _ HW3.out).mono ?_); rintro e w4 ⟨A3, c3, rfl, ho, hb⟩; have HO2 := Lib.hid ho; have HB4 := Lib.hid hb; clear hb ho))
    have HAt : Hid (At w (w4.alloc (.cells (dcells nm0 dl0 A3 n0 c3) 24)) nm0 dl0 n0 ss0 A0 c0 A2 c2 A3 c3 w3.heap.size w4.heap.size ss0) := Lib.hid (by
      have hb4 := HB4.out
      have ho2 := HO2.out
      have hs3 : (w3.alloc (.cells #[.string nm0, .int .i64 dl0, .slice A2 n0 c2] 24)).heap.size = w3.heap.size + 1 := by simp
      rw [hs3] at hb4 ho2
      have hb34 : Below w3.heap.size w3 w4 := ((Below.refl _ _).alloc (Nat.le_refl _) _).trans (hb4.mono (by omega))
      have h45 := (Below.refl w4.heap.size w4).alloc (Nat.le_refl _) (.cells (dcells nm0 dl0 A3 n0 c3) 24)
      have h35 := hb34.trans (h45.mono hb34.size)
      refine ⟨(hwb.out.trans (HB3.out.mono (by omega))).trans (h35.mono (by omega)), (dbox (HB3.out.trans (h35.mono (by omega)))), ?_, Box.new _ _ _, ?_, ?_, ?_⟩
      · exact ((Box.new w3 24 (dcells nm0 dl0 A2 n0 c2)).below hb4 (by omega)).below h45 (by have := hb4.size; omega)
      · exact row_base (row_stay HO.out fun i hi => h35.block i (own_block HO.out hi).2.choose_spec.lt) (by omega)
      · exact row_base (row_stay ho2 fun i hi => h45.block i (own_block ho2 hi).2.choose_spec.lt) (by omega)
      · intro i j hi hj
        have h1 := (own_block HO.out hi).2.choose_spec.lt
        have h2 := (own_block ho2 hj).1
        omega)
    unfold dcells at HAt
    generalize w3.heap.size = g1 at *
    generalize w4.heap.size = g2 at *
    generalize w4.alloc _ = W5 at *
    have x2 := Dc2 HAt.out.b1
    go_wp2
    go_loopw [9] (fun vi wr => ∃ (k : Nat) (ts : List Stp), vi = .int .i64 (k : Int) ∧ k ≤ n0 ∧ Hid (At w wr nm0 dl0 n0 ss0 A0 c0 A2 c2 A3 c3 g1 g2 ts ∧ ts.length = n0 ∧ ∀ j, k ≤ j → ts[j]? = ss0[j]?)) (fun vi _ => n0 - (intOf vi).toNat)
    case atStart => exact ⟨0, ss0, rfl, Nat.zero_le _, Lib.hid ⟨HAt.out, HN0.out.symm, fun _ _ => rfl⟩⟩
    case round =>
      obtain ⟨k, ts, rfl, hk, HI⟩ := hrel
      have x2 := Dc2 HI.out.1.b1
      by_cases hkn : k < n0
      · obtain ⟨r, rfl⟩ := HI.out.1.live (by omega)
        obtain ⟨x, hx⟩ : ∃ x, ts[k]? = some x := ⟨_, List.getElem?_eq_getElem (by have := HI.out.2.1; omega)⟩
        have hxs : x.nm.size ≤ 100 := (SST.out x (List.mem_of_getElem? (by rw [← HI.out.2.2 k (Nat.le_refl _)]; exact hx))).1
        have c0' : wr.cell? ⟨r, k * 12, none⟩ = some (.string x.nm) := by
          have := HI.out.1.steps.get hx 0 (u := .string x.nm) rfl
          simpa using this
        have fz := HI.out.1.frozen (k * 12)
        have hcat : ¬ 9223372036854775807 < x.nm.size + (ByteArray.mk #[120]).size := by show ¬ _ < x.nm.size + 1; omega
        have hcat2 : ¬ 9223372036854775807 < x.nm.size + 1 := by omega
        have HN : Hid (∀ m, At w ((wr.drewN m).setCell ⟨r, k * 12, none⟩ (.string (x.nm ++ ⟨#[120]⟩))) nm0 dl0 n0 ss0 A0 c0 (some ⟨r, 0, none⟩) c2 A3 c3 g1 g2 (ts.set k ⟨x.nm ++ ⟨#[120]⟩, x.pt, x.tm, x.t, x.u, x.pr⟩) ∧ (ts.set k ⟨x.nm ++ ⟨#[120]⟩, x.pt, x.tm, x.t, x.u, x.pr⟩).length = n0 ∧ ∀ j, k + 1 ≤ j → (ts.set k ⟨x.nm ++ ⟨#[120]⟩, x.pt, x.tm, x.t, x.u, x.pr⟩)[j]? = ss0[j]?) := Lib.hid fun m =>
          ⟨(HI.out.1.drewN m).put hx rfl, by rw [List.length_set]; exact HI.out.2.1, fun j hj => by rw [List.getElem?_set, if_neg (by omega)]; exact HI.out.2.2 j (by omega)⟩
        clear hx
        go_wp2
        go_region
        go_wp2
        go_roundw
        case rel => exact ⟨k + 1, _, by go_num, by omega, Lib.hid (HN.out 1)⟩
        case measure => simp only [intOf]; omega
      · go_wp2
        clear x2
        have mixed : Tryd.prog.follows .mixedOrders = true := by kernel_rfl
        have HW : Hid (∀ q os, Below w.heap.size w (Go.Sort.grow (wr.drewN q) os)) := Lib.hid fun q os => HI.out.1.bel.trans ((grown_below wr q os).mono HI.out.1.bel.size)
        obtain ⟨x0, x1, x2⟩ := dall (nm := nm0) (dl := dl0) (A := A0) (n := n0) (c := c0) HI.out.1.b0
        obtain ⟨y0, y1, y2⟩ := dall (nm := nm0) (dl := dl0) (A := A2) (n := n0) (c := c2) HI.out.1.b1
        obtain ⟨v0, v1, v2⟩ := dall (nm := nm0) (dl := dl0) (A := A3) (n := n0) (c := c3) HI.out.1.b2
        have HRs : Hid (∀ q os, Calls Tryd.prog 15 #[.agg #[.string nm0, .int .i64 dl0, .slice A0 n0 c0], .agg #[.string nm0, .int .i64 dl0, .slice A3 n0 c3]] (Go.Sort.grow (wr.drewN q) os) fun e w' => e = .returned (.bool true) ∧ Made (Go.Sort.grow (wr.drewN q) os) w') := Lib.hid fun q os => by
          have hs3 : Df.Steps wr wr.heap.size A3 ss0 := steps_own HI.out.1.was
          have h := rsame_any nm0 nm0 dl0 dl0 A0 A3 c0 c3 ss0 ss0 n0 n0 (Go.Sort.grow (wr.drewN q) os) HN0.out HN0.out (by omega) (by omega) (E0.out.on (HW.out q os)) (hs3.on (grown_below wr q os))
          rw [sameB_self] at h
          exact h
        have HEn := Lib.hid (fun t w' => end_any nm0 dl0 A0 n0 c0 t w')
        have hle : decide (endT dl0 (min a b) ≤ endT dl0 (max a b)) = true := decide_eq_true (end_mono (by omega))
        go_quiet_grown (first
          | (go_at_call 15; with_reducible exact Calls.grown_of (HRs.out _ _))
          | (go_at_call 12; with_reducible exact Calls.grown_of (HEn.out _ _)))
        go_wp2
        go_ret
        exact ⟨rfl, HW.out nq osq⟩
  · have g0 : (smallI nm0 ss0 != 0) = true := by simpa using q0
    clear q0
    go_enter Tryd.func6, Tryd.ntmps6
    go_wp2_with (first
      | (go_at_call 7; (with_reducible refine (HA.out _ hwb.out).mono ?_); rintro e w1 ⟨rfl, hb⟩; have HB1 := Lib.hid (HB.out.trans (hb.mono (by omega))); clear hb; have HW1 := Lib.hid (hwb.out.trans (HB1.out.mono (by omega))); have x0 := Dc0 (dbox HB1.out); have x1 := Dc1 (dbox HB1.out); have x2 := Dc2 (dbox HB1.out))
      | (go_at_call 8; (with_reducible refine (HS0.out _ HW1.out).mono ?_); rintro e w2 ⟨rfl, hm⟩; have HB2 := Lib.hid (HB1.out.trans (hm.below.mono (by have := HB1.out.size; omega))); clear hm; have HW2 := Lib.hid (hwb.out.trans (HB2.out.mono (by omega))); have x0 := Dc0 (dbox HB2.out); have x1 := Dc1 (dbox HB2.out); have x2 := Dc2 (dbox HB2.out)))
    go_ret
    exact ⟨rfl, HW2.out⟩

set_option maxRecDepth 100000 in
theorem lifted (os : Os) (started : os.Started) (H : Type) (enc : TypeId × Value → H) :
    ReturnsInHanded {} Tryd.checked os 6 .any (fun w args => (Rows.defOwnsSpec.pre enc Tryd.prog Tryd.f6 Rows.defOwnsRow.domain false w args ∧ laidMetH Tryd.prog Rows.defOwnsRow.laid w) ∧ sizedMet enc Tryd.prog Tryd.f6 (OpenSpec.ofChange Rows.defOwnsSpec) false w args)
      (Rows.defOwnsSpec.post enc Tryd.prog Tryd.f6 false true false false) := by
  refine returns_both (C := Tryd.checked) (X := fun w _ => laidMetH Tryd.prog Rows.defOwnsRow.laid w) (fun _ _ _ hh h => h.of_heap hh) own started (by kernel_rfl) Tryd.func6
    (ChangeSpec.witness_shaped (enc := enc) (C := Tryd.checked) (os := os) (X := fun w _ => laidMetH Tryd.prog Rows.defOwnsRow.laid w) false (World.laidAll Tryd.prog os Rows.defOwnsRow.laid) #[.agg #[.string ⟨#[]⟩, .int .i64 0, .slice none 0 0], .int .i64 0, .int .i64 0] 8 (World.laidAll_os _ _ _)
      (World.shaped_of_ZipB (by kernel_rfl) (by kernel_rfl)) (by kernel_rfl) (by kernel_rfl) (by kernel_rfl)
      (by rw [MakeChecks.laidMetH_plain _ _ _ (by kernel_rfl)]; exact laidMet_laidAll _ (by kernel_rfl) (by kernel_rfl))) ?_
  intro W base args ds gs before hval0 hW _ hlaid hsh
  have hT : Tab W := tab_of_laid hlaid
  obtain ⟨m, hm⟩ := cell_of_shapedOpen_int (P := Tryd.prog) (g := 0) (t := 3) (zero := #[.int .i64 0]) hsh (of_decide_eq_true (by kernel_rfl)) (by kernel_rfl) rfl (by kernel_rfl) (by kernel_rfl) Tryd.underlying3
  have hval : ∀ (j : Nat) t v, Tryd.f6.params[j]? = some t → args[j]? = some v → Value.okWide Tryd.prog W .any base t v := hval0
  have hW' := hW
  obtain ⟨p, q, hA0, hV, rfl, _, _⟩ := hW
  have hA : DataW.TrodAll enc Tryd.prog W 0 (fun _ => true) true Tryd.f6.params.toList args.toList ds p := hA0
  rw [Tryd.params6] at hA hval
  obtain ⟨rfl, rfl⟩ := trodVars_none hV
  obtain ⟨v0, vs0, d0, ds0, p0, q0, hargs, rfl, rfl, h0, r0⟩ := trodAll_cons hA
  obtain ⟨v1, vs1, d1, ds1, p1, q1, rfl, rfl, rfl, h1, r1⟩ := trodAll_cons r0
  obtain ⟨v2, vs2, d2, ds2, p2, q2, rfl, rfl, rfl, h2, r2⟩ := trodAll_cons r1
  obtain ⟨rfl, rfl, rfl⟩ := trodAll_nil r2
  obtain rfl : args = #[v0, v1, v2] := by cases args; simp_all
  obtain ⟨nm0, dl0, A0, c0, ss0, y0, z0, n0, cc0, f0, e0, u0⟩ := arg_def (hval 0 24 v0 rfl rfl) h0
  subst y0
  obtain ⟨a1, rfl, rfl, rfl, w1⟩ := open_int Tryd.underlying3 (hval 1 3 v1 rfl rfl) h1
  obtain ⟨a2, rfl, rfl, rfl, w2⟩ := open_int Tryd.underlying3 (hval 2 3 v2 rfl rfl) h2
  clear hA0 hval0
  simp only [List.append_nil] at hW'
  have hlt0 : ∀ x ∈ p0, x.block < W.heap.size := fun x hx => by simpa using hW'.lt x (by simp [hx])
  refine (walk nm0 dl0 A0 c0 ss0 a1 a2 m W hm hT z0 n0 f0 e0 u0).mono fun e W' ⟨he, bel⟩ => ?_
  subst he
  exact ⟨_, rfl, _, _, _, [], _, [], hW', trodAll_mk1 (shut_bool Tryd.underlying4 _), (trodAll_cons_mk (Below.trod laidOut (by kernel_rfl) (of_decide_eq_true (by kernel_rfl)) h0 bel hlt0) (trodAll_cons_mk (shut_int Tryd.underlying3 w1) (trodAll_cons_mk (shut_int Tryd.underlying3 w2) trodAll_mk0))), rfl, bel.frame _, fun h => by cases h⟩

theorem over : Rows.defOwnsRow.holds Tryd.pinned (OpenSpec.ofChange Rows.defOwnsSpec) :=
  OpenClaim.holds_of_wide 6 Tryd.f6 rfl rfl rfl rfl rfl rfl rfl ⟨rfl, rfl, rfl, rfl, rfl⟩ rfl rfl rfl rfl rfl (by kernel_rfl) Tryd.func6 (by kernel_rfl)
    (of_decide_eq_true (by kernel_rfl)) (by unfold Func.isWrapper; first | (rw [if_pos (by decide +kernel)]; kernel_rfl) | (rw [if_neg (by decide +kernel)]; exact ⟨rfl, rfl⟩))
    (fun os started H enc _ => lifted os started H enc)

/-- the statement -/
theorem proved : Rows.DefOwnsCardSaid :=
  Claim7.holds_tied_plain_at .later [] [.data, .data, .data, .data, .pinned] true Rows.defOwnsCard.stood.harness false over (fun _ h => by cases h) (by kernel_rfl) (fun _ h => by cases h) defOwns_row_tie rfl ⟨rfl, rfl⟩ (by kernel_rfl) rfl
    (fun f fn hf hfn => by
      obtain rfl : f = 6 := Option.some.inj ((show Tryd.prog.funcNamed Rows.defOwnsRow.func = some 6 by kernel_rfl).symm.trans hf) |>.symm
      obtain rfl : fn = Tryd.f6 := (Option.some.inj (Tryd.func6.symm.trans hfn)).symm
      exact ⟨by kernel_rfl, fun j t ht => by
        rw [Tryd.params6] at ht
        have hm : t ∈ [24, 3, 3] := by simpa using Array.mem_of_getElem? ht
        have hall : ([24, 3, 3].all fun u => !Tryd.prog.wantsStandIn u) = true := by kernel_rfl
        exact (show Tryd.prog.wantsStandIn t = false by simpa using List.all_eq_true.1 hall t hm)⟩)
    (by kernel_rfl)
#print axioms proved
end Go.Proofs.YtebhakpcjhofpaaDoor.defOwns
