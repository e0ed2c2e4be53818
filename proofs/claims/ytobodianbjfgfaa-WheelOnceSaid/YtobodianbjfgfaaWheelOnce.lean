/-
  The statement WheelOnceSaid: for every input the law function WheelOnce returns true (a timer goes at most once, and only at its tick; one that was cancelled never does), and the arguments read afterwards as before.
  Conditions: none beyond the statement's own.
-/
import Derived.Test.YtobodianbjfgfaaWhlTk
import Derived.WalkKit
import Derived.Deep.RegionHeld3
import Derived.IntWalk
namespace Go.Proofs.Ytobodianbjfgfaa.wheelOnce
open Go.ChangeShapes Go.WideShapes Go.ChangeAt Go.RowKit Wh

/-- the bit of a place -/
def offB (off k : Nat) : Bool := decide (off / 2 ^ k % 2 = 1)
def tmF (now : Nat) (f : Nat → Nat → Int) (k : Nat) : T := ⟨k + 1, (k : Int), dueAt now (tkF now f k)⟩
def soF (now : Nat) (f : Nat → Nat → Int) (off i : Nat) : Ws := ⟨20, now, i, ((List.range i).filter fun k => !offB off k).map (tmF now f)⟩
theorem soF_len (now : Nat) (f : Nat → Nat → Int) (off i : Nat) : (soF now f off i).xs.length ≤ i := by
  simp only [soF, List.length_map]
  exact Nat.le_trans (List.length_filter_le _ _) (by simp)
theorem soF_set (now : Nat) (f : Nat → Nat → Int) (off i : Nat) (h : offB off i = false) : (soF now f off i).set (i : Int) (tkF now f i) = soF now f off (i + 1) := by
  unfold soF Ws.set
  simp only [List.range_succ, List.filter_append, List.map_append]
  rw [List.filter_cons_of_pos (by simp [h])]
  rfl
theorem soF_drop (now : Nat) (f : Nat → Nat → Int) (off i : Nat) (h : offB off i = true) : ((soF now f off i).set (i : Int) (tkF now f i)).drop (i + 1) = soF now f off (i + 1) := by
  unfold soF Ws.set Ws.drop
  simp only [List.range_succ, List.filter_append, List.map_append]
  rw [List.filter_cons_of_neg (by simp), List.filter_cons_of_neg (by simp [h])]
  congr 1
  simp only [List.filter_nil, List.append_nil, List.map_nil]
  refine List.filter_eq_self.2 fun x hx => ?_
  obtain ⟨k, hk, rfl⟩ := List.mem_map.1 hx
  have := List.mem_range.1 (List.mem_filter.1 hk).1
  exact decide_eq_true (by show k + 1 ≠ i + 1; omega)
/-- what each of the timers is -/
theorem soF_mem {now : Nat} {f : Nat → Nat → Int} {off i : Nat} {t : T} (h : t ∈ (soF now f off i).xs) : ∃ k, k < i ∧ offB off k = false ∧ t.h = k + 1 ∧ t.due = dueAt now (tkF now f k) := by
  obtain ⟨k, hk, rfl⟩ := List.mem_map.1 h
  obtain ⟨h1, h2⟩ := List.mem_filter.1 hk
  exact ⟨k, List.mem_range.1 h1, by simpa using h2, rfl, rfl⟩
/-- the marks as they are made -/
theorem zero_gone : ∃ zs : Array Value, ((Try.prog.info? 51).map (·.size) = some zs.size) ∧ (∀ j, j < 21 → zs[j]? = some (.int .i64 0)) ∧ (∀ w, (zeroValue 51).run Try.prog w = .ok (.agg zs) w) ∧ zs.all (·.oneCell') = true := by
  refine ⟨Array.replicate 21 (.int .i64 0), by kernel_rfl, fun j hj => by simp [hj], fun w => ?_, by rw [Array.all_eq_true]; intro i hi; rw [Array.getElem_replicate]; rfl⟩
  kernel_rfl
/-- where the steps stand: the wheel, the slice at hand, the marks of those that went -/
def On (W wr : World) (g b : Nat) (s : Ws) (v : Value) (l m : List T) : Prop :=
  Below W.heap.size W wr ∧ W.heap.size ≤ b ∧ (∃ X, Whl wr g X s ∧ (∀ i, i < W.heap.size → X i) ∧ X b ∧ ∀ i, v.ownBlock = some i → X i) ∧ (∃ B, wr.ownsRow B 34 3 v l.length (cellsT l)) ∧
    ∃ cs, Box wr b 51 cs ∧ cs.size = 21 ∧ ∀ h, h < 21 → cs[h]? = some (.int .i64 (if h ∈ m.map T.h then 1 else 0))
section
variable {W wr w' : World} {g b : Nat} {s s' : Ws} {v gv : Value} {l m : List T}
theorem box_setRow {t : TypeId} {cs : Array Value} (h : Box wr b t cs) : Box (wr.setRow b cs) b t cs := by
  unfold Box at h ⊢
  simp [World.setRow, Array.getElem?_modify, h]
theorem On.start {zs : Array Value} (hbl : Below W.heap.size W wr) (hw : Whl wr g (fun i => i < W.heap.size) s) (hz : zs.size = 21) (hz' : ∀ j, j < 21 → zs[j]? = some (.int .i64 0)) :
    On W ((wr.alloc (.cells zs 51)).setRow wr.heap.size zs) g wr.heap.size s (.slice none 0 0) [] [] := by
  have hb1 : Below wr.heap.size wr ((wr.alloc (.cells zs 51)).setRow wr.heap.size zs) := below_putRow ((Below.refl _ _).alloc (Nat.le_refl _) _) (Nat.le_refl _) _
  have hB : Box ((wr.alloc (.cells zs 51)).setRow wr.heap.size zs) wr.heap.size 51 zs := box_setRow (Box.new wr _ zs)
  exact ⟨hbl.trans (hb1.mono hbl.size), hbl.size, ⟨_, hw.wide hb1, fun i hi => .inl hi, .inr ⟨Nat.le_refl _, hB.lt⟩, fun i hi => by simp [Value.ownBlock] at hi⟩, ⟨0, World.ownsRow_nil _ _ _ _⟩, zs, hB, hz, fun h hh => by simp [hz' h hh]⟩
/-- behind a Go -/
theorem On.gone {X : Nat → Prop} {B : Nat} (h : On W wr g b s (.slice none 0 0) [] m) (hX : ∀ i, i < W.heap.size → X i) (hXb : X b) (hrow : w'.ownsRow B 34 3 gv l.length (cellsT l)) (hW : Whl w' g (fun i => X i ∨ gv.ownBlock = some i) s') (hK : Keep X wr w') : On W w' g b s' gv l m := by
  obtain ⟨h1, h2, _, _, cs, hB, h4, h5⟩ := h
  exact ⟨h1.trans (hK.below h1.size hX), h2, ⟨_, hW, fun i hi => .inl (hX i hi), .inl hXb, fun i hi => .inr hi⟩, ⟨B, hrow⟩, cs, hK.box hB hXb, h4, h5⟩
/-- a mark more -/
theorem On.mark {cs : Array Value} {t : T} (h : On W wr g b s v l m) (hB : Box wr b 51 cs) (hg : wr.grownBy w' (some b)) (hB' : Box w' b 51 (cs.setIfInBounds t.h (.int .i64 1))) (ht : t.h < 21) : On W w' g b s v l (m ++ [t]) := by
  obtain ⟨h1, h2, ⟨X, hW, hX, hXb, hXv⟩, ⟨B, hrow⟩, cs', hB0, h4, h5⟩ := h
  have e : cs' = cs := by
    have := hB0.symm.trans hB
    injection this with this
    injection this
  subst e
  refine ⟨h1.grown hg h1.size (fun k hk => by injection hk with hk; omega), h2, ⟨_, hW.across_grown hg (fun i hi => by injection hi with hi; exact hi ▸ hXb), fun i hi => .inl (hX i hi), .inl hXb, fun i hi => .inl (hXv i hi)⟩, ⟨B, ?_⟩, _, hB', by simp [h4], fun q hq => ?_⟩
  · exact own_stay hrow fun i hi => by
      obtain ⟨_, cs2, hc⟩ := own_blk hrow hi
      exact hg.block i hc.lt (fun e => by
        injection e with e
        exact cells_ne hc hB (by decide) e)
  · rw [setIf_get (by omega)]
    by_cases e : q = t.h
    · subst e
      rw [if_pos rfl]
      simp
    · rw [if_neg e, h5 q hq]
      simp only [List.map_append, List.map_cons, List.map_nil, List.mem_append, List.mem_singleton, e, or_false]
theorem On.done (h : On W wr g b s v l m) : On W wr g b s (.slice none 0 0) [] m := by
  obtain ⟨h1, h2, ⟨X, hW, hX, hXb, _⟩, _, h5⟩ := h
  exact ⟨h1, h2, ⟨X, hW, hX, hXb, fun i hi => by simp [Value.ownBlock] at hi⟩, ⟨0, World.ownsRow_nil _ _ _ _⟩, h5⟩
end
/-- what a timer that goes is -/
theorem went {now : Nat} {f : Nat → Nat → Int} {off n was to : Nat} {sa s2 : Ws} {acc l2 : List T} (hr : Res (soF now f off n) was sa acc) (hr2 : Res sa to s2 l2) (hok : sa.Ok) (hto : to ≤ 1099511627776) {k : Nat} (hk : k < l2.length) :
    ∃ j, l2[k].h = j + 1 ∧ j < n ∧ offB off j = false ∧ was < l2[k].due ∧ l2[k].due ≤ to ∧ l2[k].due = dueAt now (tkF now f j) ∧ l2[k].h ∉ (acc ++ l2.take k).map T.h := by
  have hsub : ∀ t ∈ sa.xs, t ∈ (soF now f off n).xs := fun t ht => by
    rcases hr with ⟨_, rfl, _⟩ | ⟨_, rfl, _⟩
    · exact ht
    · exact (List.mem_filter.1 ht).1
  rcases hr2 with ⟨_, _, h0⟩ | ⟨h1, h2, h3⟩
  · rw [h0] at hk
    cases hk
  · have hw : sa.now = was := hr.now.1
    have hm := h3.1.mem_iff.1 (List.getElem_mem hk)
    obtain ⟨hm1, hm2⟩ := List.mem_filter.1 hm
    have hm2 := of_decide_eq_true hm2
    have hd := hok.due _ hm1
    obtain ⟨j, j1, j2, j3, j4⟩ := soF_mem (hsub _ hm1)
    refine ⟨j, j3, j1, j2, by omega, hm2, j4, ?_⟩
    have hall := hr.trans (Or.inr ⟨h1, h2, h3⟩)
    have hnd : ((acc ++ l2).map T.h).Nodup := by
      rcases hall with ⟨_, _, e⟩ | ⟨_, _, h4⟩
      · rw [e]
        exact .nil
      · refine ((h4.1.map T.h).nodup_iff).2 ?_
        have : ((soF now f off n).xs.map T.h).Nodup := by
          simp only [soF, List.map_map]
          rw [List.Nodup, List.pairwise_map]
          exact (List.Pairwise.filter _ List.pairwise_lt_range).imp fun h => by
            show _ + 1 ≠ _ + 1
            omega
        exact this.sublist (List.filter_sublist.map _)
    rw [← List.take_append_drop k l2, ← List.append_assoc, List.drop_eq_getElem_cons hk, List.map_append, List.map_cons, List.nodup_append] at hnd
    intro hmem
    exact hnd.2.2 _ hmem _ List.mem_cons_self rfl
theorem res_small {now : Nat} {f : Nat → Nat → Int} {off n to : Nat} {s2 : Ws} {l : List T} (h : Res (soF now f off n) to s2 l) : l.length ≤ n := by
  rcases h with ⟨_, _, rfl⟩ | ⟨_, _, h⟩
  · exact Nat.zero_le _
  · rw [h.1.length_eq]
    exact Nat.le_trans (List.length_filter_le _ _) (soF_len now f off n)
theorem bit_int (off k : Nat) : ((off : Int) / 2 ^ k).tmod 2 = ((off / 2 ^ k % 2 : Nat) : Int) := by
  have e : ((2 : Int) ^ k) = ((2 ^ k : Nat) : Int) := by simp
  rw [e, ← Int.natCast_ediv, Int.tmod_eq_emod_of_nonneg (Int.natCast_nonneg _)]
  omega
set_option maxHeartbeats 1600000 in
set_option maxRecDepth 100000 in
theorem walk (a0 : Int) (A1 : Option Addr) (n1 c1 : Nat) (f1 : Nat → Nat → Int) (A2 : Option Addr) (n2 c2 : Nat) (f2 : Nat → Nat → Int) (off : Nat) (w : World) (hn1 : n1 ≤ 9223372036854775807) (hn2 : n2 ≤ 9223372036854775807)
    (hf1 : ∀ i, i < n1 → IntsAt w w.heap.size A1 1 i (f1 i)) (hf2 : ∀ i, i < n2 → IntsAt w w.heap.size A2 1 i (f2 i)) :
    Calls Try.prog 5 #[.int .i64 a0, .slice A1 n1 c1, .slice A2 n2 c2, .int .u32 (off : Int)] w fun e w' => e = .returned (.bool true) ∧ Below w.heap.size w w' := by
  by_cases h1 : 20 < n1
  · clear hf1 hf2
    go_enter Try.func5, Try.ntmps5
    go_wp2_with (go_at_call 6; (with_reducible refine (awake_any _).mono ?_); rintro e w0 ⟨rfl, hb0⟩)
    go_ret
    exact ⟨rfl, hb0⟩
  by_cases h2 : 20 < n2
  · clear hf1 hf2
    go_enter Try.func5, Try.ntmps5
    go_wp2_with (go_at_call 6; (with_reducible refine (awake_any _).mono ?_); rintro e w0 ⟨rfl, hb0⟩)
    go_ret
    exact ⟨rfl, hb0⟩
  by_cases h3 : a0 < 0
  · clear hf1 hf2
    go_enter Try.func5, Try.ntmps5
    go_wp2_with (go_at_call 6; (with_reducible refine (awake_any _).mono ?_); rintro e w0 ⟨rfl, hb0⟩)
    go_ret
    exact ⟨rfl, hb0⟩
  by_cases h4 : 1099511627776 < a0
  · clear hf1 hf2
    go_enter Try.func5, Try.ntmps5
    go_wp2_with (go_at_call 6; (with_reducible refine (awake_any _).mono ?_); rintro e w0 ⟨rfl, hb0⟩)
    go_ret
    exact ⟨rfl, hb0⟩
  obtain ⟨now, rfl⟩ : ∃ now : Nat, a0 = (now : Int) := ⟨a0.toNat, by omega⟩
  have hnow : now ≤ 1099511627776 := by omega
  have hN : ∀ w, Calls Try.prog 7 #[.int .i64 (now : Int), .int .i64 20] w fun e w' => e = .returned (.pointer (some ⟨w.heap.size + 1, 0, none⟩)) ∧ Whl w' (w.heap.size + 1) (fun i => i < w.heap.size) (soF now f1 off 0) ∧ Below w.heap.size w w' :=
    fun w => new_any now 20 w hnow (by omega) (by omega)
  have HN := Lib.hid hN
  have HF1 := Lib.hid hf1
  have HF2 := Lib.hid hf2
  clear hN hf1 hf2
  go_enter Try.func5, Try.ntmps5
  go_wp2_with (first
    | (go_at_call 6; (with_reducible refine (awake_any _).mono ?_); rintro e w0 ⟨rfl, hb0⟩; have H0 := Lib.hid hb0; clear hb0)
    | (go_at_call 7; (with_reducible refine (HN.out w0).mono ?_); rintro e w1 ⟨rfl, hq1, hb1⟩; have H1 := Lib.hid (And.intro hq1 hb1); clear hq1 hb1))
  have hbw : Below w.heap.size w w1 := H0.out.trans (H1.out.2.mono H0.out.size)
  have hT : Whl w1 (w0.heap.size + 1) (fun i => i < w.heap.size) (soF now f1 off 0) := H1.out.1.less fun i hi => Nat.lt_of_lt_of_le hi H0.out.size
  generalize w0.heap.size + 1 = g at hT ⊢
  have HT := Lib.hid (And.intro hbw hT)
  clear hT hbw H0 H1
  go_loopw [10] (fun vi wr => ∃ k : Nat, vi = .int .i64 (k : Int) ∧ k ≤ n1 ∧ Hid (Below w.heap.size w wr ∧ Whl wr g (fun i => i < w.heap.size) (soF now f1 off k))) (fun vi _ => n1 - (intOf vi).toNat)
  case atStart => exact ⟨0, rfl, Nat.zero_le _, HT.out⟩
  case round =>
    obtain ⟨k, rfl, hk, HI⟩ := hrel
    by_cases hlt : k < n1
    · obtain ⟨hbl, ha⟩ := HI.out
      have hat := (HF1.out k hlt).below hbl
      obtain ⟨b, o, rfl⟩ : ∃ b o, A1 = some ⟨b, o, none⟩ := by obtain ⟨b, o, e, _⟩ := hat; exact ⟨b, o, e⟩
      have C0 := hat.get 0 (by omega)
      simp only [Nat.mul_one, Nat.add_zero] at C0
      have hset := set_ok ha (id := (k : Int)) (tkF_le now f1 k) (by have := soF_len now f1 off k; show _ < 20; omega) (by show k < _; omega)
      rw [← tkF_int] at hset
      have hz : (soF now f1 off k).last = k := rfl
      rw [hz] at hset
      have HS := Lib.hid hset
      have HBL := Lib.hid hbl
      unfold ptr at HS
      clear hbl hat ha hset hz
      cases hbit : offB off k with
      | true =>
        have hcan : ∀ w3, Whl w3 g (fun i => i < w.heap.size) ((soF now f1 off k).set (k : Int) (tkF now f1 k)) → Calls Try.prog 12 #[ptr g, .int .i64 ((k : Int) + 1)] w3 fun e w' => e = .returned (.bool true) ∧ Whl w' g (fun i => i < w.heap.size) (soF now f1 off (k + 1)) ∧ Keep (fun i => i < w.heap.size) w3 w' := fun w3 h => by
          have := cancel_yes h (y := ⟨k + 1, (k : Int), dueAt now (tkF now f1 k)⟩) (by simp [Ws.set, soF]) (by show k + 1 < _; omega)
          rw [soF_drop now f1 off k hbit] at this
          exact this
        have HC := Lib.hid hcan
        unfold ptr at HC
        have HBIT := Lib.hid hbit
        have e1 := of_decide_eq_true hbit
        have e2 : ((off : Int) / 2 ^ k).tmod 2 = 1 := by rw [bit_int]; omega
        clear e1
        clear hcan hbit
        generalize hx : f1 k 0 = x at *
        clear hx
        go_wp2_with (first
          | (go_at_call 8; (with_reducible refine (radd_any _ _ _).mono ?_); rintro e w' ⟨rfl, rfl⟩)
          | (go_at_call 9; (with_reducible refine HS.out.mono ?_); rintro e w3 ⟨rfl, hW, hK⟩; have HW := Lib.hid hW; have HK := Lib.hid hK; clear hW hK)
          | (go_at_call 12; (with_reducible refine (HC.out _ HW.out).mono ?_); rintro e w4 ⟨rfl, hW, hK⟩; have HW4 := Lib.hid hW; have HK4 := Lib.hid hK; clear hW hK))
        go_roundw
        case rel => exact ⟨k + 1, by go_num, by omega, ⟨HBL.out.trans ((HK.out.trans HK4.out).below HBL.out.size (fun i hi => hi)), HW4.out⟩⟩
        case measure => simp [intOf]; omega
      | false =>
        have HS2 := Lib.hid (soF_set now f1 off k hbit)
        have e1 := of_decide_eq_false hbit
        have e2 : ((off : Int) / 2 ^ k).tmod 2 = 0 := by rw [bit_int]; omega
        clear hbit e1
        generalize hx : f1 k 0 = x at *
        clear hx
        go_wp2_with (first
          | (go_at_call 8; (with_reducible refine (radd_any _ _ _).mono ?_); rintro e w' ⟨rfl, rfl⟩)
          | (go_at_call 9; (with_reducible refine HS.out.mono ?_); rintro e w3 ⟨rfl, hW, hK⟩; have HW := Lib.hid hW; have HK := Lib.hid hK; clear hW hK))
        go_roundw
        case rel => exact ⟨k + 1, by go_num, by omega, ⟨HBL.out.trans (HK.out.below HBL.out.size (fun i hi => hi)), by rw [← HS2.out]; exact HW.out⟩⟩
        case measure => simp [intOf]; omega
    · obtain rfl : n1 = k := by omega
      clear hlt
      obtain ⟨zs, z1, z2, z3, z4⟩ := zero_gone
      have z5 : zs.all (·.oneCell') = true := z4
      clear z4
      go_wp2_with ((with_reducible refine wpList_store_row rfl 51 (.tmp 13) (.tmp 79) rfl wr.heap.size 51 zs zs rfl rfl (heap_alloc_new wr _) (z1.trans rfl) rfl z5 ?_))
      have hz21 : zs.size = 21 := by
        have h0 : (Try.prog.info? 51).map (·.size) = some 21 := by kernel_rfl
        rw [h0] at z1
        injection z1 with z1
        exact z1.symm
      have hS0 := On.start HI.out.1 HI.out.2 hz21 z2
      have hs0 : (soF now f1 off n1).now = now := rfl
      have hla : (soF now f1 off n1).last < 4611686018427387904 := by show n1 < _; omega
      generalize wr.heap.size = gb at *
      generalize ((wr.alloc (.cells zs 51)).setRow gb zs) = w2 at *
      have HS0 := Lib.hid hS0
      clear hS0 z1 z2 z3 z5 hz21 HI
      have HLA := Lib.hid hla
      clear hla hs0
      go_loopg [14, 15] n2 (fun q vt vi wr => ∃ k : Nat, k + q = n2 ∧ vi = .int .i64 (k : Int) ∧ vt = .int .i64 (toF now f2 k : Int) ∧ Hid (∃ sa acc, On w wr g gb sa (.slice none 0 0) [] acc ∧ Res (soF now f1 off n1) (toF now f2 k) sa acc))
      case atStart => exact ⟨0, by omega, rfl, rfl, _, _, HS0.out, .inl ⟨rfl, rfl, rfl⟩⟩
      case round =>
        obtain ⟨k, hkq, rfl, rfl, HI⟩ := hrel
        cases gk with
        | zero =>
          obtain rfl : k = n2 := by omega
          have hfin : Below w.heap.size w wr := by obtain ⟨_, _, h1, _⟩ := HI.out; exact h1.1
          have HFIN := Lib.hid hfin
          clear hfin
          go_wp2
          go_ret
          exact ⟨rfl, HFIN.out⟩
        | succ qo =>
          have hlt : k < n2 := by omega
          obtain ⟨sa, acc, hOn, hres⟩ := HI.out
          have hbl := hOn.1
          obtain ⟨X, hW, hX, hXb, _⟩ := hOn.2.2.1
          have hat := (HF2.out k hlt).below hbl
          obtain ⟨b2, o2, rfl⟩ : ∃ b o, A2 = some ⟨b, o, none⟩ := by obtain ⟨b, o, e, _⟩ := hat; exact ⟨b, o, e⟩
          have C0 := hat.get 0 (by omega)
          simp only [Nat.mul_one, Nat.add_zero] at C0
          have hadd := fun w => radd_any (toF now f2 k : Int) (f2 k 0) w
          simp only [toF_int] at hadd
          obtain ⟨r1, r2, _⟩ := hres.now
          have hup := toF_up f2 hnow k
          have htl := toF_le f2 hnow (k + 1)
          have hgo := gor_any hW (by rw [r2]; exact HLA.out) (to := toF now f2 (k + 1)) (by omega) htl
          have hgone := fun (w3 : World) (gv : Value) (l2 : List T) (s2 : Ws) (hrow : w3.ownsRow wr.heap.size 34 3 gv l2.length (cellsT l2)) => On.gone (w' := w3) (gv := gv) (l := l2) (s' := s2) hOn hX hXb hrow
          have hwent := fun (s2 : Ws) (l2 : List T) (h : Res sa (toF now f2 (k + 1)) s2 l2) (q : Nat) (hq : q < l2.length) => went hres h hW.ok htl hq
          have htr := fun (s2 : Ws) (l2 : List T) (h : Res sa (toF now f2 (k + 1)) s2 l2) => hres.trans h
          have HGO := Lib.hid hgo
          have HADD := Lib.hid hadd
          have HGONE := Lib.hid hgone
          have HWENT := Lib.hid hwent
          have HTR := Lib.hid htr
          unfold ptr at HGO
          unfold GoEnd at HGO
          clear hOn hres hbl hW hX hXb hat hadd r1 r2 hgo hgone hwent htr HI hup
          generalize f2 k 0 = x2 at C0 HADD
          generalize hto : toF now f2 (k + 1) = to' at *
          generalize toF now f2 k = was at *
          have HTO := Lib.hid hto
          clear hto
          go_wp2_with (first
            | (go_at_call 8; (with_reducible refine (HADD.out _).mono ?_); rintro e w' ⟨rfl, rfl⟩)
            | (go_at_call 14; (with_reducible refine HGO.out.mono ?_); rintro e w3 ⟨gv, l2, s2, rfl, hres2, hrow2, hW2, hK2⟩
               have HO2 := Lib.hid (HGONE.out _ _ _ _ hrow2 hW2 hK2)
               have HW2 := Lib.hid (HWENT.out _ _ hres2)
               have HT2 := Lib.hid (HTR.out _ _ hres2)
               obtain ⟨A3, c3, hgv⟩ : ∃ A c, gv = .slice A l2.length c := by
                 rcases hrow2.2 with ⟨e0, h0⟩ | ⟨r, c, cur, e0, _⟩
                 · exact ⟨none, 0, by rw [e0, h0]⟩
                 · exact ⟨_, _, e0⟩
               subst hgv
               have hl2 := res_small HT2.out
               rw [List.length_append] at hl2
               clear hres2 hrow2 hW2 hK2))
          go_loopg [18] l2.length (fun q s18 wr => ∃ p : Nat, p + q = l2.length ∧ s18 = .int .i64 (p : Int) ∧ Hid (On w wr g gb s2 (.slice A3 l2.length c3) l2 (acc ++ l2.take p)))
          case atStart => exact ⟨0, by omega, rfl, by rw [List.take_zero, List.append_nil]; exact HO2⟩
          case round =>
            obtain ⟨p, hpq, rfl, HJ⟩ := hrel
            cases gk with
            | zero =>
              obtain rfl : p = l2.length := by omega
              have hj := HJ.out.done
              rw [List.take_length] at hj
              have HJD := Lib.hid hj
              clear hj
              go_wp2
              go_roundg qo
              case rel => exact ⟨k + 1, by omega, by go_num, by rw [HTO.out], _, _, HJD.out, by rw [HTO.out]; exact HT2.out⟩
              case measure => omega
            | succ qi =>
              have hp : p < l2.length := by omega
              obtain ⟨j, j1, j2, j3, j4, j5, j6, j7⟩ := HW2.out p hp
              obtain ⟨_, _, _, ⟨B3, hrow⟩, cs, hB, hcs, hmk⟩ := HJ.out
              obtain ⟨r, c', hv, hrlt, t0, t1, t2⟩ := row_at hrow hp
              injection hv with hv1 _ hv2
              subst hv1 hv2
              have hbl := HJ.out.1
              have hat1 := (HF1.out j j2).below hbl
              obtain ⟨b1, o1, rfl⟩ : ∃ b o, A1 = some ⟨b, o, none⟩ := by obtain ⟨b, o, e, _⟩ := hat1; exact ⟨b, o, e⟩
              have D0 := hat1.get 0 (by omega)
              simp only [Nat.mul_one, Nat.add_zero] at D0
              have hb1 : b1 < w.heap.size := by
                obtain ⟨b, o, e, hlt, _⟩ := HF1.out j j2
                injection e with e
                injection e with e _
                rw [e]
                exact hlt
              have hb1' : b1 < wr.heap.size := Nat.lt_of_lt_of_le hb1 hbl.size
              have hgbl := hB.lt
              have hge := HJ.out.2.1
              have hmk0 : wr.cell? ⟨gb, j + 1, none⟩ = some (.int .i64 0) := by
                rw [hB.cell, hmk (j + 1) (by omega), ← j1, if_neg j7]
              have hfr := hB.frozen (j + 1)
              have HMARK := Lib.hid (fun (w' : World) => On.mark (w' := w') (t := l2[p]) HJ.out hB)
              have HTK : Hid (acc ++ l2.take (p + 1) = acc ++ l2.take p ++ [l2[p]]) := by
                show _ = _
                rw [List.take_succ_eq_append_getElem hp, List.append_assoc]
              have hjn : j < 21 := by omega
              have hmax : max (addT (now : Int) (f1 j 0)) (addT (now : Int) 1) = (l2[p].due : Int) := by
                rw [tkF_int, add_one hnow, j6]
                unfold dueAt
                omega
              have ebit : ((off : Int) / 2 ^ j).tmod 2 = 0 := by
                have := of_decide_eq_false j3
                rw [bit_int]
                omega
              have HRA := Lib.hid (fun (a b : Int) (w : World) => (radd_any a b w).mono fun e w' ⟨h3, h4⟩ => (⟨h3, h4.symm⟩ : e = Ending.returned (.int .i64 (addT a b)) ∧ w' = w))
              have hdl : l2[p].due ≤ 1099511627776 := Nat.le_trans j5 htl
              have j1' : (l2[p].h : Int) = (j : Int) + 1 := by rw [j1]; omega
              rw [j1'] at t0
              have hjs : l2[p].h = j + 1 := j1
              clear hmk hcs hrow hat1 j1 j1' j3 j6 j7
              generalize f1 j 0 = x1 at *
              generalize l2[p].due = xd at *
              generalize l2[p].id = xi at *
              go_wp2_with fail
              have hnb := Box.new wr 34 #[.int .i64 ((j : Int) + 1), .int .i64 xi, .int .i64 (xd : Int)]
              have y0 : (wr.alloc (.cells #[.int .i64 ((j : Int) + 1), .int .i64 xi, .int .i64 (xd : Int)] 34)).cell? ⟨wr.heap.size, 0, none⟩ = some (.int .i64 ((j : Int) + 1)) := hnb.cell 0
              have y2 : (wr.alloc (.cells #[.int .i64 ((j : Int) + 1), .int .i64 xi, .int .i64 (xd : Int)] 34)).cell? ⟨wr.heap.size, 2, none⟩ = some (.int .i64 (xd : Int)) := hnb.cell 2
              have y3 := (World.cell?_alloc_lt wr (.cells #[.int .i64 ((j : Int) + 1), .int .i64 xi, .int .i64 (xd : Int)] 34) ⟨gb, j + 1, none⟩ hgbl).trans hmk0
              have y4 := (World.cell?_alloc_lt wr (.cells #[.int .i64 ((j : Int) + 1), .int .i64 xi, .int .i64 (xd : Int)] 34) ⟨b1, o1 + j, none⟩ hb1').trans D0
              have hBW := hB.alloc (.cells #[.int .i64 ((j : Int) + 1), .int .i64 xi, .int .i64 (xd : Int)] 34)
              have y5 := hBW.frozen (j + 1)
              have hg0 : wr.grownBy (wr.alloc (.cells #[.int .i64 ((j : Int) + 1), .int .i64 xi, .int .i64 (xd : Int)] 34)) (some gb) := ⟨rfl, rfl, rfl, by simp, fun q hq _ => Below.heap_alloc wr _ q hq⟩
              have HBW := Lib.hid (And.intro hBW hg0)
              clear hBW hg0 hnb hmk0 D0 hfr hB t0 t1 t2
              generalize (wr.alloc (.cells #[.int .i64 ((j : Int) + 1), .int .i64 xi, .int .i64 (xd : Int)] 34)) = W at *
              generalize wr.heap.size = nb at y0 y2 ⊢
              have q1 : decide ((j : Int) + 1 < 1) = false := decide_eq_false (by omega)
              have q2 : decide ((n1 : Int) < (j : Int) + 1) = false := decide_eq_false (by omega)
              have q3 : IntKind.i64.wrap ((j : Int) + 1 - 1) = j := by rw [show (j : Int) + 1 - 1 = j by omega]; exact IntWalk.i64_in _ (by omega)
              have q4 : 0 ≤ (j : Int) + 1 := by omega
              have q5 : ((j : Int) + 1).toNat = j + 1 := by omega
              have q6 : decide (xd ≤ was) = false := decide_eq_false (by omega)
              have q7 : decide (to' < xd) = false := decide_eq_false (by omega)
              have HP := Lib.hid (And.intro j4 j5)
              clear j4 j5
              go_quiet ((go_at_call 8; exact Calls.quiet_of_same (HRA.out _ _ _)))
              have hfin : ∀ n, On w ((W.drewN n).setCell ⟨gb, j + 1, none⟩ (.int .i64 1)) g gb s2 (.slice (some ⟨r, 0, none⟩) l2.length c3) l2 (acc ++ l2.take (p + 1)) := fun n => by
                rw [HTK.out]
                refine HMARK.out _ (only_put (only_drewN HBW.out.2 n) (j + 1) _) ?_ (by rw [hjs]; omega)
                rw [hjs]
                exact (HBW.out.1.drewN n).put (j + 1) _
              have HFIN := Lib.hid hfin
              clear hfin
              go_wp2
              go_roundg qi
              case rel => exact ⟨p + 1, by omega, by go_num, HFIN.out _⟩
              case measure => omega
set_option maxRecDepth 100000 in
theorem lifted (os : Os) (started : os.Started) (H : Type) (enc : TypeId × Value → H) :
    ReturnsInHanded {} Try.checked os 5 .any (Rows.wheelOnceSpec.pre6 enc Try.prog Try.f5 Rows.wheelOnceRow.domain false) (Rows.wheelOnceSpec.post enc Try.prog Try.f5 false true false false) := by
  refine returnsInHanded_of_change_sized (C := Try.checked) own started (by kernel_rfl) Try.func5
    (ChangeSpec.witness6 (enc := enc) (C := Try.checked) false ⟨#[], #[.int .i64 0, .slice none 0 0, .slice none 0 0, .int .u32 0], []⟩ 8 (by kernel_rfl) (by kernel_rfl) (by kernel_rfl) (by kernel_rfl)) ?_
  intro W base args ds gs before hval0 hW _ _ _
  have hval : ∀ (j : Nat) t v, Try.f5.params[j]? = some t → args[j]? = some v → Value.okWide Try.prog W .any base t v := hval0
  have hW' := hW
  obtain ⟨p, q, hA0, hV, rfl, _, _⟩ := hW
  have hA : DataW.TrodAll enc Try.prog W 0 (fun _ => true) true Try.f5.params.toList args.toList ds p := hA0
  rw [Try.params5] at hA hval
  obtain ⟨rfl, rfl⟩ := trodVars_none hV
  obtain ⟨v0, vs0, d0, ds0, p0, q0, hargs, rfl, rfl, h0, r0⟩ := trodAll_cons hA
  obtain ⟨v1, vs1, d1, ds1, p1, q1, rfl, rfl, rfl, h1, r1⟩ := trodAll_cons r0
  obtain ⟨v2, vs2, d2, ds2, p2, q2, rfl, rfl, rfl, h2, r2⟩ := trodAll_cons r1
  obtain ⟨v3, vs3, d3, ds3, p3, q3, rfl, rfl, rfl, h3, r3⟩ := trodAll_cons r2
  obtain ⟨rfl, rfl, rfl⟩ := trodAll_nil r3
  obtain rfl : args = #[v0, v1, v2, v3] := by cases args; simp_all
  obtain ⟨a0, rfl, rfl, rfl, w0⟩ := open_int Try.underlying3 (hval 0 3 v0 rfl rfl) h0
  obtain ⟨a1, len1, cap1, rfl⟩ := okWide_slice Try.underlying48 (hval 1 48 v1 rfl rfl)
  obtain ⟨a2, len2, cap2, rfl⟩ := okWide_slice Try.underlying48 (hval 2 48 v2 rfl rfl)
  obtain ⟨a3, rfl, rfl, rfl, w3⟩ := open_int Try.underlying50 (hval 3 50 v3 rfl rfl) h3
  clear hA0 hval0
  simp only [List.append_nil, List.nil_append] at hW'
  have hlt1 : ∀ x ∈ p1, x.block < W.heap.size := fun x hx => by simpa using hW'.lt x (by simp [hx])
  have hlt2 : ∀ x ∈ p2, x.block < W.heap.size := fun x hx => by simpa using hW'.lt x (by simp [hx])
  obtain ⟨f1, hc1, hm1, hf1⟩ := arg_nums h1
  obtain ⟨f2, hc2, hm2, hf2⟩ := arg_nums h2
  obtain ⟨n3, rfl⟩ : ∃ n : Nat, a3 = (n : Int) := ⟨a3.toNat, by obtain ⟨h, _⟩ : 0 ≤ a3 ∧ a3 ≤ 4294967295 := fits w3 rfl rfl; omega⟩
  refine (walk a0 a1 len1 cap1 f1 a2 len2 cap2 f2 n3 W hm1 hm2 hf1 hf2).mono fun e W' ⟨he, bel⟩ => ?_
  subst he
  exact ⟨_, rfl, _, _, _, [], _, [], hW', trodAll_mk1 (shut_bool Try.underlying4 _), (trodAll_cons_mk (shut_int Try.underlying3 w0) (trodAll_cons_mk (Below.trod laidOut (by kernel_rfl) (of_decide_eq_true (by kernel_rfl)) h1 bel hlt1) (trodAll_cons_mk (Below.trod laidOut (by kernel_rfl) (of_decide_eq_true (by kernel_rfl)) h2 bel hlt2) (trodAll_cons_mk (shut_int Try.underlying50 w3) trodAll_mk0)))), rfl, bel.frame _, fun h => by cases h⟩

/-- the statement -/
theorem proved : Rows.WheelOnceSaid :=
  OpenClaim.holds_of_wide 5 Try.f5 rfl rfl rfl rfl rfl rfl rfl ⟨rfl, rfl, rfl, rfl, rfl⟩ rfl rfl rfl rfl rfl (by kernel_rfl) Try.func5 (by kernel_rfl)
    (of_decide_eq_true (by kernel_rfl)) (by unfold Func.isWrapper; first | (rw [if_pos (by decide +kernel)]; kernel_rfl) | (rw [if_neg (by decide +kernel)]; exact ⟨rfl, rfl⟩))
    (fun os started H enc _ => lifted os started H enc)
#print axioms proved
end Go.Proofs.Ytobodianbjfgfaa.wheelOnce
