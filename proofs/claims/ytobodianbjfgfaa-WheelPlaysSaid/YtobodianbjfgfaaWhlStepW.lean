/-
  The walk of stepTo.
  Conditions: the wheel is one; none of its timers is due ahead of the tick.
-/
import Derived.Test.YtobodianbjfgfaaWhlStep
import Derived.StillTailTactics
namespace Go.Proofs.Ytobodianbjfgfaa.Wh
open Go.RowKit Go.Maps

section
variable {w : World} {g bm : Nat} {X : Nat → Prop} {lev : Nat → Option Nat} {rv : Nat → Nat → Value} {ct : Nat → Nat → List En} {ms : List (Nat × Nat)} {cap now last : Nat}
set_option maxHeartbeats 4000000 in
set_option maxRecDepth 100000 in
theorem step_any (h : Raw w g X bm lev rv ct ms cap now last) {d : List En} (hS : Std now ct d) (hms : ms.Perm (d.map hb)) (hnd : (d.map En.h).Nodup) {a : Nat} (h1 : now ≤ a) (ha : a ≤ 1099511627776)
    (hd : ∀ x ∈ d, a ≤ x.due ∧ now < x.due ∧ x.due ≤ 1099511627776) (hh : ∀ x ∈ d, x.h ≤ 4611686018427387904) (hl : d.length ≤ 1099511627776) :
    Calls Try.prog 27 #[ptr g, .int .i64 (a : Int)] w (StepEnd w g X bm cap a last d) := by
  obtain ⟨i0, hi0, hz0, hz1, hz2⟩ := info_parts infoA
  have hin : In (lvl now a) (dig (lvl now a) a) := ⟨lvl_lt _ _, dig_lt _ _⟩
  have HR := Lib.hid (row_any h (by omega) ha)
  have hop := others_perm (a := a) hS
  have hC : StepC w X (others now a d) (ct (lvl now a) (dig (lvl now a) a)) a := by
    refine ⟨h.xlt, h.nd _ _ hin, fun x hx => h.xe _ _ x hin hx, ((hop.map En.h).nodup_iff).2 hnd, fun x hx => hh x (hop.mem_iff.1 hx), fun x hx => ?_, by rw [hop.length_eq]; exact hl⟩
    have := hd x (hop.mem_iff.1 (List.mem_append_right _ hx))
    exact ⟨this.1, this.2.2⟩
  have HC := Lib.hid hC
  have HP := Lib.hid hop
  have HE := Lib.hid (fun (wr w' : World) (v0 gv : Value) (hs : StepIn w wr g X bm cap a last (others now a d) v0 (ct (lvl now a) (dig (lvl now a) a)) (ct (lvl now a) (dig (lvl now a) a)).length gv) (ts' : List T) => step_end (ts' := ts') (w' := w') hs hC hop (fun x hx => (hd x hx).1))
  have HS := Lib.hid (fun (w1 : World) (lev1 : Nat → Option Nat) (lb : Nat) (hR : Raw w1 g X bm lev1 rv ct ms cap now last) (hk : Keep X w w1) (hlb : lev1 (lvl now a) = some lb) => step_start hR hk hlb hS hms h1 (fun x hx => ⟨(hd x hx).1, (hd x hx).2.1⟩))
  have HRow := Lib.hid (fun (w1 : World) (lev1 : Nat → Option Nat) (hR : Raw w1 g X bm lev1 rv ct ms cap now last) => hR.row _ _ hin)
  have HLev := Lib.hid (fun (w1 : World) (lev1 : Nat → Option Nat) (lb : Nat) (hR : Raw w1 g X bm lev1 rv ct ms cap now last) (hlb : lev1 (lvl now a) = some lb) => hR.levcell hin hlb)
  have HLb := Lib.hid (fun (w1 : World) (lev1 : Nat → Option Nat) (lb : Nat) (hR : Raw w1 g X bm lev1 rv ct ms cap now last) (hlb : lev1 (lvl now a) = some lb) => hR.lbox hin.1 hlb)
  unfold ptr at HR ⊢
  unfold RowEnd at HR
  have hmax : a ≤ 1099511627776 := ha
  clear hC hop h hS hms hnd hd hh hl hin
  generalize others now a d = st0 at *
  generalize hcc : ct (lvl now a) (dig (lvl now a) a) = c0 at *
  generalize hvv : rv (lvl now a) (dig (lvl now a) a) = v0 at *
  generalize dig (lvl now a) a = j at *
  generalize lvl now a = k at *
  clear hcc hvv
  go_enter Try.func27, Try.ntmps27
  go_wp2_with (go_at_call 29; refine HR.out.mono ?_; rintro e w1 ⟨lb, lev1, rfl, hlb, hR1, hK1⟩
               obtain ⟨m3, f3⟩ := HLev.out _ _ _ hR1 hlb
               obtain ⟨A, c, hv, hc⟩ := own_form (HRow.out _ _ hR1)
               obtain ⟨lc, hlbox⟩ := HLb.out _ _ _ hR1 hlb
               have m1 := hR1.c1
               have f1 := hR1.box.frozen 1
               have hgl : lb ≠ g := cells_ne hlbox hR1.box (by decide)
               have hI := HS.out _ _ _ hR1 hK1 hlb
               subst hv
               have HI := Lib.hid hI
               unfold nil_ at HI
               clear hR1 hK1 hlb hI hlbox)
  go_loopg [7, 24] c0.length (fun q s7 s24 wr => ∃ i : Nat, i + q = c0.length ∧ s24 = .int .i64 (i : Int) ∧ Hid (StepIn w wr g X bm cap a last st0 (.slice A c0.length c) c0 i s7))
  case atStart => exact ⟨0, by omega, rfl, HI.out⟩
  case round =>
    obtain ⟨i, hiq, rfl, HA⟩ := hrel
    have hcl : c0.length ≤ 1099511627776 := by have := HC.out.len; rw [List.length_append] at this; omega
    cases gk with
    | zero =>
      obtain rfl : i = c0.length := by omega
      have hgone : ∃ n, wr.ownsRow w.heap.size 34 3 u7 (goneL c0 c0.length a).length (cellsT (goneL c0 c0.length a)) ∧ n = (goneL c0 c0.length a).length := by
        obtain ⟨_, _, _, _, _, h1⟩ := HA.out
        exact ⟨_, h1.gone, rfl⟩
      obtain ⟨_, hg1, _⟩ := hgone
      have hgl' : (goneL c0 c0.length a).length ≤ 1099511627776 := by
        unfold goneL
        rw [List.length_map]
        exact Nat.le_trans (List.length_filter_le _ _) (by rw [List.length_take]; omega)
      have HQ := Lib.hid (sort_any wr _ _ _ hg1 hgl')
      unfold SortEnd at HQ
      clear hg1
      go_wp2_with (go_at_call 33; refine HQ.out.mono ?_; rintro e w2 ⟨rfl, ts', hs1, hs2, hs3, hs4⟩
                   have HF := Lib.hid (HE.out _ _ _ _ HA.out _ hs1 hs2 hs3 hs4)
                   clear hs1 hs2 hs3 hs4)
      go_ret
      exact HF.out
    | succ q =>
      have hi : i < c0.length := by omega
      obtain ⟨lev2, rv2, ct2, ms2, st2, hA⟩ := HA.out
      have hx := hA.lone (nth c0 i) (by rw [drop_at hi]; exact List.mem_cons_self)
      have hrow := hA.row0
      obtain ⟨r, rfl⟩ : ∃ r, A = some ⟨r, 0, none⟩ := by
        rcases hrow.2 with ⟨h0, h2⟩ | ⟨r, c', cur, h0, _⟩
        · omega
        · injection h0 with h0
          exact ⟨r, h0⟩
      have m4 : wr.cell? ⟨r, i, none⟩ = some (.pointer (some ⟨(nth c0 i).b, 0, none⟩)) := by
        rw [hrow.cellAt i (by omega)]
        simp [nth_some hi, En.val, ptr]
      have hdue := HC.out.due _ (nth_mem hi)
      have hhl := HC.out.hl _ (List.mem_append_right _ (nth_mem hi))
      obtain ⟨p, hB⟩ := id hx
      have x0 : wr.cell? ⟨(nth c0 i).b, 0, none⟩ = some (.int .i64 ((nth c0 i).h : Int)) := hB.cell 0
      have x1 : wr.cell? ⟨(nth c0 i).b, 1, none⟩ = some (.int .i64 (nth c0 i).id) := hB.cell 1
      have x2 : wr.cell? ⟨(nth c0 i).b, 2, none⟩ = some (.int .i64 ((nth c0 i).due : Int)) := hB.cell 2
      by_cases hlate : a < (nth c0 i).due
      · have hpu := put_any (hA.raw.less (Y := XS X (.slice (some ⟨r, 0, none⟩) c0.length c) c0 (i + 1) u7) (fun b hb => XS.next hi hb)) hmax hx hdue.2 (hA.out hi) (hA.xs HC.out hi) (hA.small HC.out)
        have hbk := fun w' => hA.back (w' := w') hi hlate
        have HPU := Lib.hid hpu
        have HBK := Lib.hid hbk
        have e1 : decide ((a : Int) < ((nth c0 i).due : Int)) = true := decide_eq_true (by omega)
        unfold ptr at HPU
        clear hpu hbk hA hx hrow hB x0 x1
        generalize (nth c0 i).b = xb at HPU m4 x2
        generalize (nth c0 i).due = xd at *
        go_wp2_with (go_at_call 24; refine HPU.out.mono ?_; rintro e w2 ⟨rfl, hpt⟩; have HT := Lib.hid (HBK.out _ hpt); clear hpt)
        go_roundg q
        case rel => exact ⟨i + 1, by omega, by go_num, HT.out⟩
        case measure => omega
      · have e1 : decide ((a : Int) < ((nth c0 i).due : Int)) = false := decide_eq_false (by omega)
        have m7 := hA.raw.c7
        have hgn := hA.gone
        obtain ⟨w2, u, hrun, hM, ht⟩ := hA.raw.drew.mdel (x := ((nth c0 i).h : Int)) (by omega) (by omega) 0
        have hxm : (nth c0 i).b ≠ bm := by
          obtain ⟨es, n, hm⟩ := hA.raw.mblk
          exact map_ne hB hm
        have hB2 : Box w2 (nth c0 i).b _ _ := (hB.drewN 1).grown ht.grown (fun e => hxm (by injection e))
        have y0 : w2.cell? ⟨(nth c0 i).b, 0, none⟩ = some (.int .i64 ((nth c0 i).h : Int)) := hB2.cell 0
        have y1 : w2.cell? ⟨(nth c0 i).b, 1, none⟩ = some (.int .i64 (nth c0 i).id) := hB2.cell 1
        have y2 : w2.cell? ⟨(nth c0 i).b, 2, none⟩ = some (.int .i64 ((nth c0 i).due : Int)) := hB2.cell 2
        have hgl2 : (goneL c0 i a).length ≤ 1099511627776 := by
          unfold goneL
          rw [List.length_map]
          exact Nat.le_trans (List.length_filter_le _ _) (by rw [List.length_take]; omega)
        have hown2 : w2.ownsRow w.heap.size 34 3 u7 (goneL c0 i a).length (cellsT (goneL c0 i a)) := own_keep (own_stay hgn (w' := wr.drew) fun _ _ => rfl) hM.2 fun b hb => .inr (.inr (.inr hb))
        have hM' : MapAt wr g (XS X (.slice (some ⟨r, 0, none⟩) c0.length c) c0 i u7) bm lev2 rv2 ct2 (delM ms2 ((nth c0 i).h : Int)) cap a last w2 := ⟨hM.1, ⟨hM.2.os, hM.2.tape, hM.2.output, hM.2.size, hM.2.block⟩⟩
        have hgo := fun (w3 : World) (o : Obj) (gv' : Value) => hA.gone_on HC.out hi (by omega) (w3 := w3) (o := o) (gv' := gv') hM'
        have HGO := Lib.hid hgo
        have HO := Lib.hid hown2
        have hw2 : w.heap.size ≤ w2.heap.size := by
          have h1 := hA.keep.size
          have h2 := hM'.2.size
          omega
        unfold En.t T.cells at HGO
        clear hgo hown2 hM hM' hA hx hrow hB hB2 hgn ht
        generalize (nth c0 i).b = xb at *
        generalize (nth c0 i).due = xd at *
        generalize (nth c0 i).id = xi at *
        generalize (nth c0 i).h = xh at *
        go_wp2
        refine wp_region_still_tail 9 (by kernel_rfl) (by kernel_rfl) ?_
        simp only [List.take_succ_cons, List.take_zero, List.drop_succ_cons, List.drop_zero]
        change wpStill _ _ wr.drew _ _ _
        iterate 9 still_step
        refine wpStill_nil ?_
        go_wp2_with (at_builtin; refine wpList_append_own_at _ rfl (.tmp 47) (.tmp 52) 26 rfl w.heap.size 34 i0 (.agg #[.int .i64 0, .int .i64 0, .int .i64 0]) 3 24 Try.underlying26 hi0 hz0 hz1 hz2 rfl (by decide) u7 (goneL c0 i a).length (cellsT (goneL c0 i a)) rfl (own_stay HO.out (fun b hb => Below.heap_alloc w2 _ b (own_lt HO.out hb))) ⟨w2.heap.size, 0, none⟩ 1 1 [.int .i64 (xh : Int), .int .i64 xi, .int .i64 (xd : Int)] rfl rfl (cell_three_to rfl _ _ _ _) (by simp [Value.oneCell']) (by unfold maxLen; omega) (by omega) (by simp; omega) ?_
                     intro v1 w3 hown3 hg3 _ hat3
                     have HF := Lib.hid (HGO.out _ _ _ hg3 hown3 hat3)
                     clear hown3 hg3 hat3)
        go_roundg q
        case rel => exact ⟨i + 1, by omega, by go_num, HF.out⟩
        case measure => omega
end
end Go.Proofs.Ytobodianbjfgfaa.Wh
