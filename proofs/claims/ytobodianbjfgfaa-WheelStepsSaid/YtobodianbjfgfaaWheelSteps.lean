/-
  The statement WheelStepsSaid: for every input the law function WheelSteps returns true (in how many steps one goes on doesn't count), and the arguments read afterwards as before.
  Conditions: none beyond the statement's own.
-/
import Derived.Test.YtobodianbjfgfaaWhlTk
import Derived.Laws.AppendOwnNone
import Derived.WalkKit
namespace Go.Proofs.Ytobodianbjfgfaa.wheelSteps
open Go.ChangeShapes Go.WideShapes Go.ChangeAt Go.RowKit Wh

/-- two wheels side by side, and a row that is neither's -/
def Two (w : World) (ga gb B : Nat) (v : Value) (sa sb : Ws) : Prop :=
  ∃ Xa Xb, Whl w ga Xa sa ∧ Whl w gb Xb sb ∧ (∀ i, i < w.heap.size → Xa i ∨ Xb i) ∧ (∀ i, i < B → Xa i ∧ Xb i) ∧ ∀ i, v.ownBlock = some i → Xa i ∧ Xb i
section
variable {w w' : World} {ga gb B : Nat} {v v' : Value} {sa sb sa' sb' : Ws} {Xa Xb Xa' Xb' : Nat → Prop}
theorem Two.onA (hb : Whl w gb Xb sb) (hD : ∀ i, i < w.heap.size → Xa i ∨ Xb i) (hB : ∀ i, i < B → Xa i ∧ Xb i) (hv : ∀ i, v.ownBlock = some i → Xa i ∧ Xb i)
    (hk : Keep Xa w w') (ha' : Whl w' ga Xa' sa') (hX : ∀ i, Xa i → Xa' i) : Two w' ga gb B v sa' sb :=
  ⟨Xa', _, ha', hb.across hk hD, fun i hi => by
    by_cases h : i < w.heap.size
    · rcases hD i h with h1 | h1
      · exact .inl (hX i h1)
      · exact .inr (.inl h1)
    · exact .inr (.inr ⟨by omega, hi⟩), fun i hi => ⟨hX i (hB i hi).1, .inl (hB i hi).2⟩, fun i hi => ⟨hX i (hv i hi).1, .inl (hv i hi).2⟩⟩
theorem Two.onB (ha : Whl w ga Xa sa) (hD : ∀ i, i < w.heap.size → Xa i ∨ Xb i) (hB : ∀ i, i < B → Xa i ∧ Xb i) (hv : ∀ i, v.ownBlock = some i → Xa i ∧ Xb i)
    (hk : Keep Xb w w') (hb' : Whl w' gb Xb' sb') (hX : ∀ i, Xb i → Xb' i) : Two w' ga gb B v sa sb' :=
  ⟨_, Xb', ha.across hk (fun i hi => (hD i hi).symm), hb', fun i hi => by
    by_cases h : i < w.heap.size
    · rcases hD i h with h1 | h1
      · exact .inl (.inl h1)
      · exact .inr (hX i h1)
    · exact .inl (.inr ⟨by omega, hi⟩), fun i hi => ⟨.inl (hB i hi).1, hX i (hB i hi).2⟩, fun i hi => ⟨.inl (hv i hi).1, hX i (hv i hi).2⟩⟩
/-- the row grows -/
theorem Two.app (h : Two w ga gb B v sa sb) (hg : w.grownBy w' v.ownBlock) (hat : v'.ownBlock = v.ownBlock ∨ v'.ownBlock = some w.heap.size) (hlt : ∀ i, v'.ownBlock = some i → i < w'.heap.size) : Two w' ga gb B v' sa sb := by
  obtain ⟨Xa, Xb, ha, hb, hD, hB, hv⟩ := h
  refine ⟨_, _, ha.across_grown hg (fun i hi => (hv i hi).1), hb.across_grown hg (fun i hi => (hv i hi).2), fun i hi => ?_, fun i hi => ⟨.inl (hB i hi).1, .inl (hB i hi).2⟩, fun i hi => ?_⟩
  · by_cases h : i < w.heap.size
    · rcases hD i h with h1 | h1
      · exact .inl (.inl h1)
      · exact .inr (.inl h1)
    · exact .inl (.inr ⟨by omega, hi⟩)
  · rcases hat with h1 | h1
    · exact ⟨.inl (hv i (h1 ▸ hi)).1, .inl (hv i (h1 ▸ hi)).2⟩
    · have h2 := hlt i hi
      rw [h1] at hi
      injection hi with hi
      exact ⟨.inr ⟨by omega, h2⟩, .inr ⟨by omega, h2⟩⟩
theorem Two.drewN (h : Two w ga gb B v sa sb) (n : Nat) : Two (w.drewN n) ga gb B v sa sb := by
  obtain ⟨Xa, Xb, ha, hb, hD, hB, hv⟩ := h
  exact ⟨Xa, Xb, ha.drewN n, hb.drewN n, hD, hB, hv⟩
theorem Two.start {w0 w1 w2 : World} {s : Ws} (ha : Whl w1 ga (fun i => i < w0.heap.size) s) (hs : w0.heap.size ≤ w1.heap.size) (hb : Whl w2 gb (fun i => i < w1.heap.size) s) (hk : Below w1.heap.size w1 w2) (hB : B ≤ w0.heap.size) : Two w2 ga gb B (.slice none 0 0) s s := by
  refine ⟨_, _, ha.wide hk, hb, fun i hi => ?_, fun i hi => ⟨.inl (by omega), by omega⟩, fun i hi => by simp [Value.ownBlock] at hi⟩
  by_cases h : i < w1.heap.size
  · exact .inr h
  · exact .inl (.inr ⟨by omega, hi⟩)
end
section
variable {W wr w' : World} {ga gb : Nat} {v : Value} {s : Ws}
/-- where the steps stand: a has gone on to a tick, b has not -/
def At (W wr : World) (ga gb : Nat) (v : Value) (s : Ws) (to : Nat) : Prop :=
  Below W.heap.size W wr ∧ ∃ sa l, Two wr ga gb W.heap.size v sa s ∧ Res s to sa l ∧ wr.ownsRow W.heap.size 34 3 v l.length (cellsT l)
theorem At.on {w3 w4 : World} {v' : Value} {sa s2 : Ws} {l l2 : List T} {a b : Nat} (hbl : Below W.heap.size W w3) (hT : Two w3 ga gb W.heap.size v s2 s) (hres : Res s a sa l) (hres2 : Res sa b s2 l2) (hvb : ∀ i, v.ownBlock = some i → W.heap.size ≤ i)
    (hg : w3.grownBy w4 v.ownBlock) (hat : v'.ownBlock = v.ownBlock ∨ v'.ownBlock = some w3.heap.size) (hr : w4.ownsRow W.heap.size 34 3 v' (l.length + l2.length) (cellsT l ++ cellsT l2)) : At W w4 ga gb v' s b := by
  refine ⟨hbl.grown hg hbl.size hvb, s2, l ++ l2, hT.app hg hat (fun i hi => own_lt hr hi), hres.trans hres2, ?_⟩
  rw [List.length_append, cellsT_app]
  exact hr
theorem cellsT_one (l : List T) : ∀ u ∈ cellsT l, u.oneCell' = true := fun u hu => by
  obtain ⟨t, _, ht⟩ := List.mem_flatMap.1 hu
  simp only [T.cells, List.mem_cons, List.not_mem_nil, or_false] at ht
  rcases ht with rfl | rfl | rfl <;> rfl
theorem drewN_below (w : World) (n : Nat) : Below w.heap.size w (w.drewN n) := ⟨rfl, rfl, rfl, Nat.le_refl _, fun _ _ => rfl⟩
end
set_option maxHeartbeats 4000000 in
set_option maxRecDepth 100000 in
theorem walk (a0 : Int) (A1 : Option Addr) (n1 c1 : Nat) (f1 : Nat → Nat → Int) (A2 : Option Addr) (n2 c2 : Nat) (f2 : Nat → Nat → Int) (w : World) (hn1 : n1 ≤ 9223372036854775807) (hn2 : n2 ≤ 9223372036854775807)
    (hf1 : ∀ i, i < n1 → IntsAt w w.heap.size A1 1 i (f1 i)) (hf2 : ∀ i, i < n2 → IntsAt w w.heap.size A2 1 i (f2 i)) :
    Calls Try.prog 4 #[.int .i64 a0, .slice A1 n1 c1, .slice A2 n2 c2] w fun e w' => e = .returned (.bool true) ∧ Below w.heap.size w w' := by
  by_cases h1 : 20 < n1
  · clear hf1 hf2
    go_enter Try.func4, Try.ntmps4
    go_wp2_with (go_at_call 6; (with_reducible refine (awake_any _).mono ?_); rintro e w0 ⟨rfl, hb0⟩)
    go_ret
    exact ⟨rfl, hb0⟩
  by_cases h2 : 20 < n2
  · clear hf1 hf2
    go_enter Try.func4, Try.ntmps4
    go_wp2_with (go_at_call 6; (with_reducible refine (awake_any _).mono ?_); rintro e w0 ⟨rfl, hb0⟩)
    go_ret
    exact ⟨rfl, hb0⟩
  by_cases h3 : a0 < 0
  · clear hf1 hf2
    go_enter Try.func4, Try.ntmps4
    go_wp2_with (go_at_call 6; (with_reducible refine (awake_any _).mono ?_); rintro e w0 ⟨rfl, hb0⟩)
    go_ret
    exact ⟨rfl, hb0⟩
  by_cases h4 : 1099511627776 < a0
  · clear hf1 hf2
    go_enter Try.func4, Try.ntmps4
    go_wp2_with (go_at_call 6; (with_reducible refine (awake_any _).mono ?_); rintro e w0 ⟨rfl, hb0⟩)
    go_ret
    exact ⟨rfl, hb0⟩
  obtain ⟨now, rfl⟩ : ∃ now : Nat, a0 = (now : Int) := ⟨a0.toNat, by omega⟩
  obtain ⟨i0, hi0, hz0, hz1, hz2⟩ := info_parts infoA
  have hnow : now ≤ 1099511627776 := by omega
  have hN : ∀ w, Calls Try.prog 7 #[.int .i64 (now : Int), .int .i64 20] w fun e w' => e = .returned (.pointer (some ⟨w.heap.size + 1, 0, none⟩)) ∧ Whl w' (w.heap.size + 1) (fun i => i < w.heap.size) (stF now f1 0) ∧ Below w.heap.size w w' :=
    fun w => new_any now 20 w hnow (by omega) (by omega)
  have HN := Lib.hid hN
  have HF1 := Lib.hid hf1
  have HF2 := Lib.hid hf2
  clear hN hf1 hf2
  go_enter Try.func4, Try.ntmps4
  go_wp2_with (first
    | (go_at_call 6; (with_reducible refine (awake_any _).mono ?_); rintro e w0 ⟨rfl, hb0⟩; have H0 := Lib.hid hb0; clear hb0)
    | (go_at_call 7; (with_reducible refine (HN.out w0).mono ?_); rintro e w1 ⟨rfl, hq1, hb1⟩; have H1 := Lib.hid (And.intro hq1 hb1); clear hq1 hb1)
    | (go_at_call 7; (with_reducible refine (HN.out w1).mono ?_); rintro e w2 ⟨rfl, hq2, hb2⟩; have H2 := Lib.hid (And.intro hq2 hb2); clear hq2 hb2))
  have hT : Two w2 (w0.heap.size + 1) (w1.heap.size + 1) w.heap.size (.slice none 0 0) (stF now f1 0) (stF now f1 0) := Two.start H1.out.1 H1.out.2.size H2.out.1 H2.out.2 H0.out.size
  have hbw : Below w.heap.size w w2 := (H0.out.trans (H1.out.2.mono H0.out.size)).trans (H2.out.2.mono (Nat.le_trans H0.out.size H1.out.2.size))
  generalize w0.heap.size + 1 = ga at hT ⊢
  generalize w1.heap.size + 1 = gb at hT ⊢
  have HT := Lib.hid (And.intro hbw hT)
  clear hT hbw H0 H1 H2
  go_loopw [9] (fun vi wr => ∃ k : Nat, vi = .int .i64 (k : Int) ∧ k ≤ n1 ∧ Hid (Below w.heap.size w wr ∧ Two wr ga gb w.heap.size (.slice none 0 0) (stF now f1 k) (stF now f1 k))) (fun vi _ => n1 - (intOf vi).toNat)
  case atStart => exact ⟨0, rfl, Nat.zero_le _, HT.out⟩
  case round =>
    obtain ⟨k, rfl, hk, HI⟩ := hrel
    by_cases hlt : k < n1
    · obtain ⟨hbl, Xa, Xb, ha, hb, hD, hB, hv⟩ := HI.out
      have hat := (HF1.out k hlt).below hbl
      obtain ⟨b, o, rfl⟩ : ∃ b o, A1 = some ⟨b, o, none⟩ := by obtain ⟨b, o, e, _⟩ := hat; exact ⟨b, o, e⟩
      have C0 := hat.get 0 (by omega)
      simp only [Nat.mul_one, Nat.add_zero] at C0
      have hset : ∀ g X w, Whl w g X (stF now f1 k) → Calls Try.prog 9 #[.pointer (some ⟨g, 0, none⟩), .int .i64 (k : Int), .int .i64 (addT (now : Int) (f1 k 0))] w fun e w' => e = .returned (.tuple #[.int .i64 ((k : Int) + 1), .int .i64 0]) ∧ Whl w' g X (stF now f1 (k + 1)) ∧ Keep X w w' := fun g X w h => by
        rw [tkF_int]
        have := set_ok h (id := (k : Int)) (tkF_le now f1 k) (by rw [stF_len]; show k < 20; omega) (by show k < _; omega)
        rw [stF_set] at this
        exact this
      have hTA : ∀ w', Whl w' ga Xa (stF now f1 (k + 1)) → Keep Xa wr w' → Below w.heap.size w w' ∧ Two w' ga gb w.heap.size (.slice none 0 0) (stF now f1 (k + 1)) (stF now f1 k) := fun w' hW hK =>
        ⟨hbl.trans (hK.below hbl.size (fun i hi => (hB i hi).1)), Two.onA hb hD hB hv hK hW (fun _ h => h)⟩
      have HA := Lib.hid ha
      have HS := Lib.hid hset
      have HTA := Lib.hid hTA
      clear hbl hat ha hb hD hB hv hset hTA
      generalize hx : f1 k 0 = x at *
      clear hx
      go_wp2_with (first
        | (go_at_call 8; (with_reducible refine (radd_any _ _ _).mono ?_); rintro e w' ⟨rfl, rfl⟩)
        | (go_at_call 9; (with_reducible refine (HS.out _ _ _ HA.out).mono ?_); rintro e w3 ⟨rfl, hW, hK⟩
           obtain ⟨hbl3, Xa3, Xb3, ha3, hb3, hD3, hB3, hv3⟩ := HTA.out _ hW hK
           have C3 : w3.cell? ⟨b, o + k, none⟩ = some (.int .i64 x) := by
             have hlt' := (HF1.out k hlt)
             obtain ⟨b', o', e, hbb, hc⟩ := hlt'
             injection e with e
             injection e with e1 e2
             subst e1 e2
             have := hbl3.cell (p := ⟨b, o + k, none⟩) hbb
             have h0 := (hc 0 (by omega)).2
             simp only [Nat.mul_one, Nat.add_zero] at h0
             have h1 := (HI.out.1.cell (p := ⟨b, o + k, none⟩) hbb).trans h0
             rw [this, h0, ← h1, C0]
           have HB3 := Lib.hid hb3
           have HTB := Lib.hid (fun (w' : World) (hW' : Whl w' gb Xb3 (stF now f1 (k + 1))) (hK' : Keep Xb3 w3 w') => (⟨hbl3.trans (hK'.below hbl3.size (fun i hi => (hB3 i hi).2)), Two.onB ha3 hD3 hB3 hv3 hK' hW' (fun _ h => h)⟩ : Below w.heap.size w w' ∧ Two w' ga gb w.heap.size (.slice none 0 0) (stF now f1 (k + 1)) (stF now f1 (k + 1))))
           clear hW hK hbl3 ha3 hb3 hD3 hB3 hv3)
        | (go_at_call 9; (with_reducible refine (HS.out _ _ _ HB3.out).mono ?_); rintro e w4 ⟨rfl, hW, hK⟩
           have H4 := Lib.hid (HTB.out _ hW hK)
           clear hW hK))
      go_roundw
      case rel => exact ⟨k + 1, by go_num, by omega, H4.out⟩
      case measure => simp [intOf]; omega
    · obtain rfl : n1 = k := by omega
      clear hlt
      go_wp2
      have hS0 : At w wr ga gb (.slice none 0 0) (stF now f1 n1) now := ⟨HI.out.1, stF now f1 n1, [], HI.out.2, .inl ⟨rfl, rfl, rfl⟩, World.ownsRow_nil _ _ _ _⟩
      have HS0 := Lib.hid hS0
      have hsl : (stF now f1 n1).xs.length = n1 := stF_len now f1 n1
      have hlast : (stF now f1 n1).last < 4611686018427387904 := by show n1 < _; omega
      have hsn : (stF now f1 n1).now = now := rfl
      have HLAST := Lib.hid hlast
      have HSN := Lib.hid hsn
      have hlx : ∀ to sa l, Res (stF now f1 n1) to sa l → l.length ≤ 20 := fun to sa l h => by
        rcases h with ⟨_, _, rfl⟩ | ⟨_, _, h3⟩
        · simp
        · rw [h3.1.length_eq]
          have := List.length_filter_le (fun x : T => decide (x.due ≤ to)) (stF now f1 n1).xs
          omega
      have HLX := Lib.hid hlx
      clear hS0 HI HF1 hsl hlast hsn hlx
      generalize stF now f1 n1 = s at *
      go_loopw [10, 11, 12] (fun vo vt vi wr => ∃ k : Nat, vi = .int .i64 (k : Int) ∧ k ≤ n2 ∧ vt = .int .i64 (toF now f2 k : Int) ∧ Hid (At w wr ga gb vo s (toF now f2 k))) (fun _ _ vi _ => n2 - (intOf vi).toNat)
      case atStart => exact ⟨0, rfl, Nat.zero_le _, rfl, HS0.out⟩
      case round =>
        obtain ⟨k, rfl, hk2, rfl, HI⟩ := hrel
        by_cases hlt : k < n2
        · obtain ⟨hbl, sa, l, ⟨Xa, Xb, ha, hb, hD, hB, hv⟩, hres, hrow⟩ := HI.out
          have hat := (HF2.out k hlt).below hbl
          obtain ⟨b, o, rfl⟩ : ∃ b o, A2 = some ⟨b, o, none⟩ := by obtain ⟨b, o, e, _⟩ := hat; exact ⟨b, o, e⟩
          have C0 := hat.get 0 (by omega)
          simp only [Nat.mul_one, Nat.add_zero] at C0
          have hadd := fun w => radd_any (toF now f2 k : Int) (f2 k 0) w
          simp only [toF_int] at hadd
          obtain ⟨q1, q2, _⟩ := hres.now
          have hup := toF_up f2 hnow k
          have htl := toF_le f2 hnow (k + 1)
          have hgo := gor_any ha (by rw [q2]; exact HLAST.out) (to := toF now f2 (k + 1)) (by omega) htl
          have hl20 := HLX.out _ _ _ hres
          have HGO := Lib.hid hgo
          have HADD := Lib.hid hadd
          have HALL := Lib.hid (⟨hbl, ha, hb, hD, hB, hv, hres, hrow⟩ : Below w.heap.size w wr ∧ Whl wr ga Xa sa ∧ Whl wr gb Xb s ∧ (∀ i, i < wr.heap.size → Xa i ∨ Xb i) ∧ (∀ i, i < w.heap.size → Xa i ∧ Xb i) ∧ (∀ i, u10.ownBlock = some i → Xa i ∧ Xb i) ∧ Res s (toF now f2 k) sa l ∧ wr.ownsRow w.heap.size 34 3 u10 l.length (cellsT l))
          unfold ptr at HGO
          unfold GoEnd at HGO
          clear hbl ha hb hD hB hv hres hrow hat hadd hgo q1 q2
          generalize f2 k 0 = x at C0 HADD
          generalize hto : toF now f2 (k + 1) = to' at *
          have HTO := Lib.hid hto
          clear hto
          go_wp2_with (first
            | (go_at_call 8; (with_reducible refine (HADD.out _).mono ?_); rintro e w' ⟨rfl, rfl⟩)
            | (go_at_call 14; (with_reducible refine HGO.out.mono ?_); rintro e w3 ⟨gv, l2, s2, rfl, hres2, hrow2, hW2, hK2⟩
               obtain ⟨hbl, ha, hb, hD, hB, hv, hres, hrow⟩ := HALL.out
               have hbl3 := hbl.trans (hK2.below hbl.size (fun i hi => (hB i hi).1))
               have hT3 := Two.onA hb hD hB hv hK2 hW2 (fun _ h => Or.inl h)
               have hrow3 := own_keep hrow hK2 (fun i hi => (hv i hi).1)
               have hvb : ∀ i, u10.ownBlock = some i → w.heap.size ≤ i := fun i hi => (own_blk hrow hi).1
               have HON := Lib.hid (fun (w4 : World) (v' : Value) => At.on (w4 := w4) (v' := v') hbl3 hT3 hres hres2 hvb)
               have hl2 := HLX.out _ _ _ (hres.trans hres2)
               rw [List.length_append] at hl2
               have hws := hbl3.size
               have HR3 := Lib.hid hrow3
               have hc2 : ∀ r c, gv = .slice (some ⟨r, 0, none⟩) l2.length c → ∀ j u, (cellsT l2)[j]? = some u → w3.cell? ((⟨r, 0, none⟩ : Addr).add j) = some u := fun r c e => hrow2.cells (g := r) (by rw [e]; rfl)
               have HC2 := Lib.hid hc2
               have hkind : (gv = .slice none 0 0 ∧ l2 = []) ∨ ∃ r c, gv = .slice (some ⟨r, 0, none⟩) l2.length c := by
                 rcases hrow2.2 with ⟨e0, h0⟩ | ⟨r, c, cur, e0, _⟩
                 · exact .inl ⟨e0, List.eq_nil_of_length_eq_zero h0⟩
                 · exact .inr ⟨r, c, e0⟩
               clear hbl ha hb hD hB hv hres hrow hbl3 hT3 hrow3 hvb hres2 hrow2 hW2 hK2 hc2
               rcases hkind with ⟨rfl, rfl⟩ | ⟨r, c, rfl⟩)
            | (at_builtin; refine wpList_append_own_none rfl (.tmp 79) (.tmp 82) 26 rfl w.heap.size 34 i0 3 Try.underlying26 hi0 u10 l.length (cellsT l) rfl HR3.out rfl ?_
               have HF := Lib.hid (HON.out w3 u10 (World.grownBy.refl _ _) (Or.inl rfl) (by simpa [cellsT] using HR3.out)))
            | (at_builtin; refine wpList_append_own_at _ rfl (.tmp 79) (.tmp 82) 26 rfl w.heap.size 34 i0 (.agg #[.int .i64 0, .int .i64 0, .int .i64 0]) 3 24 Try.underlying26 hi0 hz0 hz1 hz2 rfl (by decide) u10 l.length (cellsT l) rfl HR3.out ⟨r, 0, none⟩ l2.length c (cellsT l2) rfl (cellsT_len l2) (HC2.out r c rfl) (cellsT_one l2) (by unfold maxLen; omega) (by omega) hws ?_
               intro v1 w4 hown4 hg4 _ hat4
               have HF := Lib.hid (HON.out w4 v1 hg4 hat4 hown4)
               clear hown4 hg4 hat4))
          all_goals
            go_roundw
            case rel => exact ⟨k + 1, by go_num, by omega, by rw [HTO.out], by rw [HTO.out]; exact HF.out⟩
            case measure => simp [intOf]; omega
        · obtain rfl : n2 = k := by omega
          obtain ⟨hbl, sa, l, ⟨Xa, Xb, ha, hb, hD, hB, hv⟩, hres, hrow⟩ := HI.out
          have hto1 := toF_now f2 hnow n2
          have htl := toF_le f2 hnow n2
          have hl20 := HLX.out _ _ _ hres
          have hgo := gor_any hb HLAST.out (to := toF now f2 n2) (by rw [HSN.out]; exact hto1) htl
          have HGO := Lib.hid hgo
          have hfin : ∀ w3 gv l2 s2, Res s (toF now f2 n2) s2 l2 → w3.ownsRow wr.heap.size 34 3 gv l2.length (cellsT l2) → Whl w3 gb (fun b => Xb b ∨ gv.ownBlock = some b) s2 → Keep Xb wr w3 →
              Below w.heap.size w w3 ∧ (Calls Try.prog 16 #[u10, gv] w3 fun e w' => e = .returned (.bool true) ∧ ∃ n, w' = w3.drewN n) ∧ ∃ Xa' Xb', Whl w3 ga Xa' s2 ∧ Whl w3 gb Xb' s2 := fun w3 gv l2 s2 hr2 hrow2 hW2 hK2 => by
            obtain ⟨rfl, rfl⟩ := hr2.uniq hres
            obtain ⟨Xa', Xb', h1, h2, _⟩ := Two.onB ha hD hB hv hK2 hW2 (fun _ h => Or.inl h)
            exact ⟨hbl.trans (hK2.below hbl.size (fun i hi => (hB i hi).2)), same_any (own_keep hrow hK2 (fun i hi => (hv i hi).2)) hrow2 (by omega), Xa', Xb', h1, h2⟩
          have HFIN := Lib.hid hfin
          unfold ptr at HGO
          unfold GoEnd at HGO
          clear hbl ha hb hD hB hv hres hrow hgo hfin hlt
          generalize toF now f2 n2 = to' at *
          go_wp2_with (first
            | (go_at_call 14; (with_reducible refine HGO.out.mono ?_); rintro e w3 ⟨gv, l2, s2, rfl, hres2, hrow2, hW2, hK2⟩
               obtain ⟨hb3, hsame, Xa', Xb', ha3, hb3'⟩ := HFIN.out _ _ _ _ hres2 hrow2 hW2 hK2
               have HSA := Lib.hid hsame
               have HLA := Lib.hid (fun n => len_any (ha3.drewN n))
               have HLB := Lib.hid (fun n => len_any (hb3'.drewN n))
               have HNA := Lib.hid (fun n => now_any (ha3.drewN n))
               have HNB := Lib.hid (fun n => now_any (hb3'.drewN n))
               have HB3 := Lib.hid hb3
               unfold ptr at HLA HLB HNA HNB
               clear hsame ha3 hb3' hres2 hrow2 hW2 hK2 hb3)
            | (go_at_call 16; (with_reducible refine HSA.out.mono ?_); rintro e w4 ⟨rfl, n, rfl⟩)
            | (go_at_call 19; (with_reducible refine (HLA.out n).mono ?_); rintro e w5 ⟨rfl, rfl⟩)
            | (go_at_call 19; (with_reducible refine (HLB.out n).mono ?_); rintro e w5 ⟨rfl, rfl⟩)
            | (go_at_call 20; (with_reducible refine (HNA.out n).mono ?_); rintro e w5 ⟨rfl, rfl⟩)
            | (go_at_call 20; (with_reducible refine (HNB.out n).mono ?_); rintro e w5 ⟨rfl, rfl⟩))
          go_ret
          exact ⟨rfl, HB3.out.trans (drewN_below w3 n |>.mono (Nat.le_trans (Nat.le_refl _) HB3.out.size))⟩
set_option maxRecDepth 100000 in
theorem lifted (os : Os) (started : os.Started) (H : Type) (enc : TypeId × Value → H) :
    ReturnsInHanded {} Try.checked os 4 .any (Rows.wheelStepsSpec.pre6 enc Try.prog Try.f4 Rows.wheelStepsRow.domain false) (Rows.wheelStepsSpec.post enc Try.prog Try.f4 false true false false) := by
  refine returnsInHanded_of_change_sized (C := Try.checked) own started (by kernel_rfl) Try.func4
    (ChangeSpec.witness6 (enc := enc) (C := Try.checked) false ⟨#[], #[.int .i64 0, .slice none 0 0, .slice none 0 0], []⟩ 8 (by kernel_rfl) (by kernel_rfl) (by kernel_rfl) (by kernel_rfl)) ?_
  intro W base args ds gs before hval0 hW _ _ _
  have hval : ∀ (j : Nat) t v, Try.f4.params[j]? = some t → args[j]? = some v → Value.okWide Try.prog W .any base t v := hval0
  have hW' := hW
  obtain ⟨p, q, hA0, hV, rfl, _, _⟩ := hW
  have hA : DataW.TrodAll enc Try.prog W 0 (fun _ => true) true Try.f4.params.toList args.toList ds p := hA0
  rw [Try.params4] at hA hval
  obtain ⟨rfl, rfl⟩ := trodVars_none hV
  obtain ⟨v0, vs0, d0, ds0, p0, q0, hargs, rfl, rfl, h0, r0⟩ := trodAll_cons hA
  obtain ⟨v1, vs1, d1, ds1, p1, q1, rfl, rfl, rfl, h1, r1⟩ := trodAll_cons r0
  obtain ⟨v2, vs2, d2, ds2, p2, q2, rfl, rfl, rfl, h2, r2⟩ := trodAll_cons r1
  obtain ⟨rfl, rfl, rfl⟩ := trodAll_nil r2
  obtain rfl : args = #[v0, v1, v2] := by cases args; simp_all
  obtain ⟨a0, rfl, rfl, rfl, w0⟩ := open_int Try.underlying3 (hval 0 3 v0 rfl rfl) h0
  obtain ⟨a1, len1, cap1, rfl⟩ := okWide_slice Try.underlying48 (hval 1 48 v1 rfl rfl)
  obtain ⟨a2, len2, cap2, rfl⟩ := okWide_slice Try.underlying48 (hval 2 48 v2 rfl rfl)
  clear hA0 hval0
  simp only [List.append_nil, List.nil_append] at hW'
  have hlt1 : ∀ x ∈ p1, x.block < W.heap.size := fun x hx => by simpa using hW'.lt x (by simp [hx])
  have hlt2 : ∀ x ∈ p2, x.block < W.heap.size := fun x hx => by simpa using hW'.lt x (by simp [hx])
  obtain ⟨f1, hc1, hm1, hf1⟩ := arg_nums h1
  obtain ⟨f2, hc2, hm2, hf2⟩ := arg_nums h2
  refine (walk a0 a1 len1 cap1 f1 a2 len2 cap2 f2 W hm1 hm2 hf1 hf2).mono fun e W' ⟨he, bel⟩ => ?_
  subst he
  exact ⟨_, rfl, _, _, _, [], _, [], hW', trodAll_mk1 (shut_bool Try.underlying4 _), (trodAll_cons_mk (shut_int Try.underlying3 w0) (trodAll_cons_mk (Below.trod laidOut (by kernel_rfl) (of_decide_eq_true (by kernel_rfl)) h1 bel hlt1) (trodAll_cons_mk (Below.trod laidOut (by kernel_rfl) (of_decide_eq_true (by kernel_rfl)) h2 bel hlt2) trodAll_mk0))), rfl, bel.frame _, fun h => by cases h⟩

/-- the statement -/
theorem proved : Rows.WheelStepsSaid :=
  OpenClaim.holds_of_wide 4 Try.f4 rfl rfl rfl rfl rfl rfl rfl ⟨rfl, rfl, rfl, rfl, rfl⟩ rfl rfl rfl rfl rfl (by kernel_rfl) Try.func4 (by kernel_rfl)
    (of_decide_eq_true (by kernel_rfl)) (by unfold Func.isWrapper; first | (rw [if_pos (by decide +kernel)]; kernel_rfl) | (rw [if_neg (by decide +kernel)]; exact ⟨rfl, rfl⟩))
    (fun os started H enc _ => lifted os started H enc)
#print axioms proved
end Go.Proofs.Ytobodianbjfgfaa.wheelSteps
