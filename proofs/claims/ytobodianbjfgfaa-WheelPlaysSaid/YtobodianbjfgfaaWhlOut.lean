/-
  What takeOut does to a wheel: a timer less, whose row's last one comes into its place; with slices.Delete of a row's last element.
  Conditions: the wheel is one; the timer stands in it.
-/
import Derived.Test.YtobodianbjfgfaaWhlPut
import Derived.Lib.SliceRun
import Derived.BigRegion
namespace Go.Proofs.Ytobodianbjfgfaa.Wh
open Go.RowKit Go.Maps

theorem sizeOfP : ∀ w, (Go.sizeOf 59).run Try.prog w = .ok 1 w := fun w => by
  obtain ⟨i0, hi0, _, hz1, _⟩ := info_parts infoT
  simp [Go.sizeOf, typeInfo, hi0, hz1]
theorem zeroP (w : World) : (zeroValue 59).run Try.prog w = .ok (.pointer none) w := by kernel_rfl
theorem clear_one (r n : Nat) (w : World) (h1 : (w.cell? ⟨r, n, none⟩).isSome = true) (h2 : w.frozen? ⟨r, n, none⟩ = false) (W : World) (hW : W.cell? ⟨r, n, none⟩ = w.cell? ⟨r, n, none⟩) (hf : W.frozen? ⟨r, n, none⟩ = w.frozen? ⟨r, n, none⟩) (ty : TypeId) (c' : Nat) :
    (Builtin.clear_ #[66] ty #[.slice (some ⟨r, n, none⟩) 1 c']).run Try.prog W = .ok (.tuple #[]) (W.setCell ⟨r, n, none⟩ (.pointer none)) := by
  have h := Lib.run_clear_slice (P := Try.prog) W 66 59 ty (.pointer none) Try.underlying66 zeroP rfl rfl r n 1 c' (by omega)
    (fun j hj => by obtain rfl : j = 0 := by omega
                    rw [Nat.add_zero, hW]; exact h1)
    (fun j hj => by obtain rfl : j = 0 := by omega
                    rw [Nat.add_zero, hf]; exact h2)
  rw [h]
  rfl
set_option maxHeartbeats 1000000 in
theorem delete_last (r n c : Nat) (w : World) (hn : n ≤ 1099511627776) (hc : n + 1 ≤ c) (h1 : (w.cell? ⟨r, n, none⟩).isSome = true) (h2 : w.frozen? ⟨r, n, none⟩ = false) :
    Calls Try.prog 30 #[.slice (some ⟨r, 0, none⟩) (n + 1) c, .int .i64 (n : Int), .int .i64 ((n : Int) + 1)] w fun e w' => e = .returned (.slice (some ⟨r, 0, none⟩) n c) ∧ ∃ q, w' = (w.setCell ⟨r, n, none⟩ (.pointer none)).drewN q := by
  have c1 := fun W => run_cut_to (P := Try.prog) W 66 59 Try.underlying66 sizeOfP (some ⟨r, 0, none⟩) (n + 1) c (n : Int) (by omega) (by omega)
  obtain ⟨a2, c2, hA2⟩ : ∃ a2 c2, ∀ W, (Instr.slice 66 (.slice (some ⟨r, 0, none⟩) (n + 1) c) (some (.int .i64 ((n : Int) + 1))) none none).run Try.prog W = .ok (.slice (some a2) 0 c2) W := by
    refine ⟨if c = ((n : Int) + 1).toNat then ⟨r, 0, none⟩ else (⟨r, 0, none⟩ : Addr).add ((n : Int) + 1).toNat, c - ((n : Int) + 1).toNat, fun W => ?_⟩
    have h := run_cut_from (P := Try.prog) W 66 59 Try.underlying66 sizeOfP (some ⟨r, 0, none⟩) (n + 1) c ((n : Int) + 1) (by omega) (by omega)
    rw [h, show n + 1 - ((n : Int) + 1).toNat = 0 by omega]
    split <;> rfl
  have hnc : n ≤ c := by omega
  simp only [Int.toNat_natCast] at c1
  have hcl := fun ty c' => clear_one r n w h1 h2 w.drew rfl rfl ty c'
  go_enter Try.func30, Try.ntmps30
  go_wp2
  go_region
  all_goals
    go_wp2
    go_ret
    exact ⟨rfl, _, rfl⟩
theorem box_drew {w : World} {g : Nat} {t : TypeId} {cs : Array Value} (h : Box w g t cs) : Box w.drew g t cs := h
theorem setCell_drewN (w : World) (q : Nat) (p : Addr) (u : Value) : (w.drewN q).setCell p u = (w.setCell p u).drewN q := rfl
theorem own_short {w : World} {r n c : Nat} {e : TypeId} {xs : List Value} (h : w.ownsRow 0 e 1 (.slice (some ⟨r, 0, none⟩) (n + 1) c) (n + 1) xs) : w.ownsRow 0 e 1 (.slice (some ⟨r, 0, none⟩) n c) n (xs.take n) := by
  obtain ⟨h1, h2⟩ := h
  refine ⟨by rw [List.length_take, h1]; omega, .inr ?_⟩
  rcases h2 with ⟨hf, _⟩ | ⟨q, c', cur, hv, hq, hh, hc, hm, hs, ht⟩
  · cases hf
  · simp only [Value.slice.injEq, Option.some.injEq, Addr.mk.injEq, and_true, true_and] at hv
    obtain ⟨rfl, rfl⟩ := hv
    refine ⟨r, c, cur, rfl, hq, hh, by omega, hm, hs, ?_⟩
    have : cur.toList.take (n * 1) = (cur.toList.take ((n + 1) * 1)).take n := by rw [List.take_take]; congr 1; omega
    rw [this, ht]
theorem nth_take {d : List En} {n k : Nat} (hk : k < n) (hn : n ≤ d.length) : nth (d.take n) k = nth d k := by
  rw [nth_get (by simp; omega), nth_get (by omega)]
  simp
theorem nth_set {d : List En} {i k : Nat} {y : En} (hk : k < d.length) : nth (d.set i y) k = if k = i then y else nth d k := by
  rw [nth_get (by simpa using hk), nth_get hk, List.getElem_set]
  by_cases h : i = k
  · rw [if_pos h, if_pos h.symm]
  · rw [if_neg h, if_neg (Ne.symm h)]
/-- a row without one, whose last one comes into its place -/
def cutAt (d : List En) (i n : Nat) : List En := (d.set i (nth d n)).take n
theorem cutAt_len {d : List En} {i n : Nat} (hn : d.length = n + 1) : (cutAt d i n).length = n := by simp [cutAt]; omega
theorem cutAt_perm {d : List En} {i n : Nat} (hn : d.length = n + 1) (hi : i ≤ n) : (nth d i :: cutAt d i n).Perm d := by
  obtain ⟨l, y, rfl⟩ : ∃ l y, d = l ++ [y] := ⟨d.take n, nth d n, by
    have : d = d.take n ++ d.drop n := (List.take_append_drop n d).symm
    rw [List.drop_eq_getElem_cons (by omega), List.drop_eq_nil_of_le (by omega)] at this
    rw [nth_get (by omega)]
    exact this⟩
  have hl : l.length = n := by simpa using hn
  subst hl
  unfold cutAt
  rw [nth_last]
  rcases Nat.eq_or_lt_of_le hi with rfl | hi
  · rw [nth_last, List.set_append_right _ _ (Nat.le_refl _)]
    simp only [Nat.sub_self, List.set_cons_zero, List.take_left']
    exact (List.perm_append_singleton _ _).symm
  · rw [List.set_append_left _ _ hi, List.take_left' (by simp), nth_app hi]
    refine List.Perm.trans ?_ (List.perm_append_singleton _ _).symm
    have e : l = l.take i ++ nth l i :: l.drop (i + 1) := by
      rw [nth_get hi, List.getElem_cons_drop hi, List.take_append_drop]
    have e2 : l.set i y = l.take i ++ y :: l.drop (i + 1) := List.set_eq_take_append_cons_drop .. |>.trans (by rw [if_pos hi])
    rw [e2]
    generalize hz : nth l i = z at e ⊢
    have p1 : (z :: (l.take i ++ y :: l.drop (i + 1))).Perm (z :: y :: (l.take i ++ l.drop (i + 1))) := (List.perm_middle).cons z
    have p2 : (y :: l).Perm (y :: z :: (l.take i ++ l.drop (i + 1))) := by
      conv => lhs; rw [e]
      exact (List.perm_middle).cons y
    exact p1.trans ((List.Perm.swap y z _).trans p2.symm)
theorem cutAt_sub {d : List En} {i n : Nat} (hn : d.length = n + 1) (hi : i ≤ n) : ∀ z ∈ cutAt d i n, z ∈ d := fun _ hz => (cutAt_perm hn hi).mem_iff.1 (List.mem_cons_of_mem _ hz)
section
variable {w w' : World} {g bm : Nat} {X : Nat → Prop} {lev : Nat → Option Nat} {rv : Nat → Nat → Value} {ct : Nat → Nat → List En} {ms : List (Nat × Nat)} {cap now last : Nat}
/-- a slot whose row is let go -/
theorem Raw.cleared (h : Raw w g X bm lev rv ct ms cap now last) {k j lb : Nat} (hk : In k j) (hlb : lev k = some lb) :
    Raw (w.setCell ⟨lb, j, none⟩ nil_) g X bm lev (upd rv k j nil_) (upd ct k j []) ms cap now last ∧ Keep X w (w.setCell ⟨lb, j, none⟩ nil_) := by
  refine ⟨h.turn hk hlb (by simp [World.setCell]) (fun i _ h1 _ _ _ => Below.heap_setCell w ⟨lb, j, none⟩ _ i h1) (h.levput hk hlb nil_ rfl) (World.ownsRow_nil _ _ _ _) (by simp) (by simp) (by simp) (by simp [nil_, Value.ownBlock]), ?_⟩
  exact (Keep.refl X w).setCell (h.xl k lb hk.1 hlb) j nil_
/-- a timer less -/
theorem Raw.taken (h : Raw w g X bm lev rv ct ms cap now last) {k j lb r c i n : Nat} (hk : In k j) (hlb : lev k = some lb) (hv : rv k j = .slice (some ⟨r, 0, none⟩) (n + 1) c) (hn : (ct k j).length = n + 1) (hi : i ≤ n) :
    Raw ((((w.setCell ⟨r, i, none⟩ (ptr (nth (ct k j) n).b)).setCell ⟨(nth (ct k j) n).b, 3, none⟩ (.int .i64 (i : Int))).setCell ⟨r, n, none⟩ (.pointer none)).setCell ⟨lb, j, none⟩ (.slice (some ⟨r, 0, none⟩) n c)) g X bm lev (upd rv k j (.slice (some ⟨r, 0, none⟩) n c)) (upd ct k j (cutAt (ct k j) i n)) ms cap now last ∧
      Keep X w ((((w.setCell ⟨r, i, none⟩ (ptr (nth (ct k j) n).b)).setCell ⟨(nth (ct k j) n).b, 3, none⟩ (.int .i64 (i : Int))).setCell ⟨r, n, none⟩ (.pointer none)).setCell ⟨lb, j, none⟩ (.slice (some ⟨r, 0, none⟩) n c)) := by
  have hrow := h.row k j hk
  have hens := h.ens k j
  have hrb : (rv k j).ownBlock = some r := by rw [hv]; rfl
  obtain ⟨rc, hrbox⟩ := h.rbox hk hrb
  obtain ⟨lc, hlbox⟩ := h.lbox hk.1 hlb
  have hyb := h.ens k j n hk (by omega)
  have hym := nth_mem (d := ct k j) (k := n) (by omega)
  have hnd := h.nd k j hk
  have hne : ∀ a, a < n → (nth (ct k j) a).b ≠ (nth (ct k j) n).b := fun a ha e => by
    have hp := List.pairwise_iff_getElem.1 hnd
    rw [nth_get (by omega), nth_get (by omega)] at e
    exact hp a n (by simp; omega) (by simp; omega) ha (by simpa using e)
  have hyr : (nth (ct k j) n).b ≠ r := cells_ne hyb hrbox (by decide)
  have hyl : (nth (ct k j) n).b ≠ lb := cells_ne hyb hlbox (by decide)
  have hrl : r ≠ lb := cells_ne hrbox hlbox (by decide)
  generalize hy : nth (ct k j) n = y at *
  have hbl : ∀ b, b ≠ r → b ≠ y.b → b ≠ lb → ((((w.setCell ⟨r, i, none⟩ (ptr y.b)).setCell ⟨y.b, 3, none⟩ (.int .i64 (i : Int))).setCell ⟨r, n, none⟩ (.pointer none)).setCell ⟨lb, j, none⟩ (.slice (some ⟨r, 0, none⟩) n c)).heap[b]? = w.heap[b]? := fun b h1 h2 h3 =>
    (Below.heap_setCell _ ⟨lb, j, none⟩ _ b h3).trans ((Below.heap_setCell _ ⟨r, n, none⟩ _ b h1).trans ((Below.heap_setCell _ ⟨y.b, 3, none⟩ _ b h2).trans (Below.heap_setCell w ⟨r, i, none⟩ _ b h1)))
  refine ⟨h.turn hk hlb (by simp [World.setCell]) ?_ (h.levput hk hlb _ ?_) ?_ ?_ ?_ ?_ ?_, ?_⟩
  · intro b _ h1 h2 h3 _
    exact hbl b (fun e => h2 (by rw [hrb, e])) (fun e => h3 y hym e.symm) h1
  · exact (Below.heap_setCell _ ⟨r, n, none⟩ _ lb (Ne.symm hrl)).trans ((Below.heap_setCell _ ⟨y.b, 3, none⟩ _ lb (Ne.symm hyl)).trans (Below.heap_setCell w ⟨r, i, none⟩ _ lb (Ne.symm hrl)))
  · rw [hv, hn] at hrow
    have h1 := ((hrow.stored i (ptr y.b)).1.kept (setCell_only _ y.b 3 (.int .i64 (i : Int))) (.inr (by simp only [Value.ownBlock, ne_eq, Option.some.injEq]; exact hyr.symm))).stored n (.pointer none)
    have h2 := own_short (h1.1.kept (setCell_only _ lb j (.slice (some ⟨r, 0, none⟩) n c)) (.inr (by simp only [Value.ownBlock, ne_eq, Option.some.injEq]; exact hrl)))
    rw [List.take_set_of_le (Nat.le_refl n)] at h2
    rw [cutAt_len hn]
    have e : (((ct k j).map En.val).set i (ptr y.b)).take n = (cutAt (ct k j) i n).map En.val := by
      unfold cutAt
      rw [hy, List.map_take, List.map_set]
      rfl
    rw [e] at h2
    exact h2
  · intro a ha
    rw [cutAt_len hn] at ha
    unfold cutAt
    rw [nth_take ha (by simp; omega), nth_set (by omega), hy]
    by_cases e : a = i
    · subst e
      rw [if_pos rfl]
      exact (((hyb.far (p := ⟨r, a, none⟩) hyr (ptr y.b)).put 3 (.int .i64 (a : Int))).far (p := ⟨r, n, none⟩) hyr (.pointer none)).far (p := ⟨lb, j, none⟩) hyl _
    · rw [if_neg e]
      have hB := hens a hk (by omega)
      exact (hbl _ (cells_ne hB hrbox (by decide)) (hne a ha) (cells_ne hB hlbox (by decide))).trans hB
  · have hp := (cutAt_perm hn hi).map En.b
    have := hp.nodup_iff.2 hnd
    rw [List.map_cons, List.nodup_cons] at this
    exact this.2
  · intro z hz
    have hz' := cutAt_sub hn hi z hz
    obtain ⟨cs, hc⟩ := h.ebox hk hz'
    exact ⟨⟨cs, hc⟩, h.xe k j z hk hz', fun k' j' hk' hkk u hu e => hkk (h.ap k' j' k j u z hk' hk hu hz' e)⟩
  · intro b hb
    simp only [Value.ownBlock, Option.some.injEq] at hb
    subst hb
    exact ⟨h.xr k j r hk hrb, .inl hrb⟩
  · have hxr := h.xr k j r hk hrb
    have hxl := h.xl k lb hk.1 hlb
    have hxy := h.xe k j y hk hym
    exact ((((Keep.refl X w).setCell hxr _ _).setCell hxy _ _).setCell hxr _ _).setCell hxl _ _
/-- what takeOut leaves: the slot's row without the timer -/
def OutAt (w : World) (g : Nat) (X : Nat → Prop) (bm : Nat) (rv : Nat → Nat → Value) (ct : Nat → Nat → List En) (ms : List (Nat × Nat)) (cap now last : Nat) (x : En) (k j : Nat) (w' : World) : Prop :=
  ∃ lev' v' c', Raw w' g X bm lev' (upd rv k j v') (upd ct k j c') ms cap now last ∧ (x :: c').Perm (ct k j) ∧ Keep X w w'
theorem Raw.rform (h : Raw w g X bm lev rv ct ms cap now last) {k j n : Nat} (hk : In k j) (hn : (ct k j).length = n + 1) : ∃ r c, rv k j = .slice (some ⟨r, 0, none⟩) (n + 1) c ∧ n + 1 ≤ c ∧ (∀ q, q < n + 1 → w.cell? ⟨r, q, none⟩ = some (ptr (nth (ct k j) q).b)) ∧ ∀ q, w.frozen? ⟨r, q, none⟩ = false := by
  have hrow := h.row k j hk
  rcases hrow.2 with ⟨_, h2⟩ | ⟨r, c, cur, hv, _, hg, hc, hm, hs, ht⟩
  · omega
  · rw [hn] at hv hc
    refine ⟨r, c, hv, hc, fun q hq => ?_, fun q => ?_⟩
    · rw [hv, hn] at hrow
      rw [hrow.cellAt q (by omega)]
      simp [nth_some (show q < (ct k j).length by omega), En.val]
    · rw [hv, hn] at hrow
      exact hrow.frozenAt q
set_option maxHeartbeats 1000000 in
set_option maxRecDepth 100000 in
theorem out_one {x : En} {k j : Nat} (hin : In k j) (hm : w.cell? ⟨x.b, 2, none⟩ = some (.int .i64 (x.due : Int))) (hc : ct k j = [x])
    (hrow : Calls Try.prog 29 #[ptr g, .int .i64 (x.due : Int)] w fun e w' => ∃ lb lev', e = .returned (.pointer (some ⟨lb, j, none⟩)) ∧ lev' k = some lb ∧ Raw w' g X bm lev' rv ct ms cap now last ∧ Keep X w w') :
    Calls Try.prog 25 #[ptr g, ptr x.b] w fun E w' => E = .returned (.tuple #[]) ∧ OutAt w g X bm rv ct ms cap now last x k j w' := by
  have HR := Lib.hid hrow
  have HC := Lib.hid hc
  unfold ptr at HR ⊢
  clear hrow hc
  go_enter Try.func25, Try.ntmps25
  go_wp2_with (go_at_call 29; refine HR.out.mono ?_; rintro e w1 ⟨lb, lev1, rfl, hlb, hR1, hK1⟩
               obtain ⟨m3, f3⟩ := hR1.levcell hin hlb
               obtain ⟨r, c, hv, _⟩ := hR1.rform hin (n := 0) (by rw [HC.out]; rfl)
               rw [hv] at m3
               have HF := Lib.hid (hR1.cleared hin hlb)
               have HK := Lib.hid hK1
               clear hlb hR1 hK1 hv)
  refine bodyPost_ret (results_none rfl _ _ _) rfl ?_
  exact ⟨rfl, _, _, [], HF.out.1, by rw [HC.out], HK.out.trans HF.out.2⟩
set_option maxHeartbeats 2000000 in
set_option maxRecDepth 100000 in
theorem out_more {x : En} {k j n i : Nat} (hin : In k j) (hm : w.cell? ⟨x.b, 2, none⟩ = some (.int .i64 (x.due : Int))) (hn : (ct k j).length = n + 1) (hn0 : 0 < n) (hn1 : n ≤ 1099511627776) (hi : i ≤ n) (hx : nth (ct k j) i = x)
    (hrow : Calls Try.prog 29 #[ptr g, .int .i64 (x.due : Int)] w fun e w' => ∃ lb lev', e = .returned (.pointer (some ⟨lb, j, none⟩)) ∧ lev' k = some lb ∧ Raw w' g X bm lev' rv ct ms cap now last ∧ Keep X w w') :
    Calls Try.prog 25 #[ptr g, ptr x.b] w fun E w' => E = .returned (.tuple #[]) ∧ OutAt w g X bm rv ct ms cap now last x k j w' := by
  have HR := Lib.hid hrow
  have HN := Lib.hid hn
  have HX := Lib.hid hx
  unfold ptr at HR ⊢
  clear hrow hn hx
  go_enter Try.func25, Try.ntmps25
  go_wp2_with (go_at_call 29; refine HR.out.mono ?_; rintro e w1 ⟨lb, lev1, rfl, hlb, hR1, hK1⟩
               obtain ⟨m3, f3⟩ := hR1.levcell hin hlb
               obtain ⟨r, c, hv, hc1, hcell, hfr⟩ := hR1.rform hin HN.out
               have HT := Lib.hid (hR1.taken hin hlb hv HN.out hi)
               have cn := hcell n (by omega)
               have ci := hcell i (by omega)
               have fi := hfr i
               have fn := hfr n
               obtain ⟨lc, hlbox⟩ := hR1.lbox hin.1 hlb
               have hyb := hR1.ens k j n hin (by rw [HN.out]; omega)
               have hxb := hR1.ens k j i hin (by rw [HN.out]; omega)
               obtain ⟨rc, hrbox⟩ := hR1.rbox hin (i := r) (by rw [hv]; rfl)
               have hyr : (nth (ct k j) n).b ≠ r := cells_ne hyb hrbox (by decide)
               have hxr : (nth (ct k j) i).b ≠ r := cells_ne hxb hrbox (by decide)
               have hyl : (nth (ct k j) n).b ≠ lb := cells_ne hyb hlbox (by decide)
               have hrl : r ≠ lb := cells_ne hrbox hlbox (by decide)
               have y3 : w1.cell? ⟨(nth (ct k j) n).b, 3, none⟩ = some (.int .i64 (n : Int)) := hyb.cell 3
               have x3 : w1.cell? ⟨(nth (ct k j) i).b, 3, none⟩ = some (.int .i64 (i : Int)) := hxb.cell 3
               have fy := hyb.frozen 3
               have hB2 := box_drew ((hrbox.put i (ptr (nth (ct k j) n).b)).far (p := ⟨(nth (ct k j) n).b, 3, none⟩) (Ne.symm hyr) (.int .i64 (i : Int)))
               have hs := hB2.cell n
               have hf := hB2.frozen n
               have hs1 : ((rc.setIfInBounds i (ptr (nth (ct k j) n).b))[n]?).isSome = true := by
                 have h0 := (hrbox.cell n).symm.trans cn
                 have h1 : n < rc.size := (Array.getElem?_eq_some_iff.1 h0).1
                 rw [Array.getElem?_eq_getElem (by simpa using h1)]
                 rfl
               rw [← hs] at hs1
               clear hs hB2
               have hs := hs1
               clear hs1
               rw [HX.out] at ci x3 hxr
               rw [hv] at m3
               have hlbl := hlbox.lt
               have HK := Lib.hid hK1
               unfold ptr at HT cn ci hs hf
               generalize (nth (ct k j) n).b = y at HT cn hyr hyl y3 fy hs hf
               clear hlb hR1 hK1 hv hcell hfr hyb hxb hlbox hrbox)
  have hxy : y = x.b ∨ y ≠ x.b := Decidable.em _
  have D := fun W => delete_last r n c W hn1 hc1
  have HD := Lib.hid D
  clear D
  rcases hxy with rfl | hxy
  all_goals
    go_region
    go_wp2_with (go_at_call 30; (with_reducible refine (HD.out _ hs hf).mono ?_); rintro e W3 ⟨rfl, q, rfl⟩)
    go_end0
    refine ⟨rfl, ?_⟩
    rw [setCell_drewN]
    exact ⟨_, _, _, HT.out.1.drewN _, by rw [← HX.out]; exact cutAt_perm HN.out hi, HK.out.trans (HT.out.2.drewN _)⟩
theorem takeOut_any (h : Raw w g X bm lev rv ct ms cap now last) (hn : now ≤ 1099511627776) {x : En} (hd : x.due ≤ 1099511627776) (hx : x ∈ ct (lvl now x.due) (dig (lvl now x.due) x.due)) (hsm : ∀ k j, In k j → (ct k j).length ≤ 1099511627776) :
    Calls Try.prog 25 #[ptr g, ptr x.b] w fun E w' => E = .returned (.tuple #[]) ∧ OutAt w g X bm rv ct ms cap now last x (lvl now x.due) (dig (lvl now x.due) x.due) w' := by
  have hin : In (lvl now x.due) (dig (lvl now x.due) x.due) := ⟨lvl_lt _ _, dig_lt _ _⟩
  have hrow := row_any h hn hd
  obtain ⟨i, hi, hix, hb⟩ := h.ek hin hx
  have hm : w.cell? ⟨x.b, 2, none⟩ = some (.int .i64 (x.due : Int)) := hb.cell 2
  have hs := hsm _ _ hin
  generalize hk : lvl now x.due = k at *
  generalize hj : dig k x.due = j at *
  have hrow' : Calls Try.prog 29 #[ptr g, .int .i64 (x.due : Int)] w fun e w' => ∃ lb lev', e = .returned (.pointer (some ⟨lb, j, none⟩)) ∧ lev' k = some lb ∧ Raw w' g X bm lev' rv ct ms cap now last ∧ Keep X w w' := by
    refine hrow.mono fun e w' he => ?_
    unfold RowEnd at he
    rw [hk, hj] at he
    exact he
  rcases Nat.eq_or_lt_of_le (show 1 ≤ (ct k j).length by omega) with h1 | h1
  · have hc : ct k j = [x] := by
      match hl : ct k j, h1 with
      | [y], _ =>
        rw [hl] at hx
        rw [List.mem_singleton.1 hx]
    exact out_one hin hm hc hrow'
  · exact out_more (n := (ct k j).length - 1) hin hm (by omega) (by omega) (by omega) (by omega) hix hrow'
end
end Go.Proofs.Ytobodianbjfgfaa.Wh
