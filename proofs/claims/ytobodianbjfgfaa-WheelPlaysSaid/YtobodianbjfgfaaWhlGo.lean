/-
  What Go answers: the timers that go, by rising ticks, of one tick by rising handles; and the wheel then.
  Conditions: the wheel is one; its greatest handle is below 2^62.
-/
import Derived.Test.YtobodianbjfgfaaWhlAsk
namespace Go.Proofs.Ytobodianbjfgfaa.Wh
open Go.RowKit Go.Maps

def Ws.go (s : Ws) (to : Nat) : Ws := { s with now := to, xs := stays s.xs to }
theorem Ws.Ok.go {s : Ws} (h : s.Ok) {to : Nat} (ht : to ≤ 1099511627776) : (s.go to).Ok :=
  ⟨h.rise.filter _, fun x hx => h.pos x ((List.mem_filter.1 hx).1), fun x hx => ⟨(h.due x ((List.mem_filter.1 hx).1)).1, .inl (of_decide_eq_true (List.mem_filter.1 hx).2)⟩, Nat.le_trans (List.length_filter_le _ _) h.len, h.cap, ht⟩
/-- timers of one tick, by their handles -/
theorem gone_one {xs : List T} {a : Nat} {ts : List T} (hr : xs.Pairwise fun x y => x.h < y.h) (hd : ∀ x ∈ xs, a ≤ x.due) (hp : ts.Perm (xs.filter fun x => decide (x.due ≤ a))) (hs : ts.Pairwise fun x y => x.h ≤ y.h) : Gone xs a ts := by
  refine ⟨hp, ?_⟩
  have hn : (ts.map T.h).Nodup := by
    refine ((hp.map T.h).nodup_iff).2 ?_
    rw [List.Nodup, List.pairwise_map]
    exact (hr.filter _).imp fun h => by omega
  rw [List.Nodup, List.pairwise_map] at hn
  have hdu : ∀ x ∈ ts, x.due = a := fun x hx => by
    obtain ⟨h1, h2⟩ := List.mem_filter.1 (hp.mem_iff.1 hx)
    have := of_decide_eq_true h2
    have := hd x h1
    omega
  refine (hs.and hn).imp_of_mem fun {x y} hx hy h => ?_
  have := hdu x hx
  have := hdu y hy
  have := h.1
  have := h.2
  right
  omega
section
variable {w w' : World} {g bm : Nat} {X : Nat → Prop} {s : Ws} {lev : Nat → Option Nat} {rv : Nat → Nat → Value} {ct : Nat → Nat → List En} {ms : List (Nat × Nat)} {d : List En}
/-- what stepTo, and Go, answer: the timers that go, in memory of their own -/
def GoneEnd (w : World) (g : Nat) (X : Nat → Prop) (s : Ws) (to : Nat) (e : Ending) (w' : World) : Prop :=
  ∃ gv l, e = .returned gv ∧ Gone s.xs to l ∧ w'.ownsRow w.heap.size 34 3 gv l.length (cellsT l) ∧ Whl w' g (fun b => X b ∨ gv.ownBlock = some b) (s.go to) ∧ Keep X w w'
theorem stp_any (h : Whl w g X s) (hlast : s.last < 4611686018427387905) {a : Nat} (h1 : s.now ≤ a) (ha : a ≤ 1099511627776) (hd : ∀ x ∈ s.xs, a ≤ x.due ∧ s.now < x.due) :
    Calls Try.prog 27 #[ptr g, .int .i64 (a : Int)] w (GoneEnd w g X s a) := by
  obtain ⟨bm, lev, rv, ct, ms, d, hH⟩ := h
  have hsm := hH.small
  refine (step_any hH.raw hH.std hH.ms hH.hnd h1 ha (fun x hx => ⟨(hd _ (hH.mem hx)).1, (hd _ (hH.mem hx)).2, (hH.ok.due _ (hH.mem hx)).1⟩) (fun x hx => ?_) (by omega)).mono ?_
  · have := (hH.ok.pos _ (hH.mem hx)).2
    have : x.h ≤ s.last := this
    omega
  · rintro e w' ⟨gv, ts, lev', rv', ct', ms', rfl, hp, hs, ho, hR, hS, hm, hK⟩
    refine ⟨gv, ts, rfl, gone_one hH.ok.rise (fun x hx => (hd x hx).1) (hp.trans (List.Perm.of_eq ?_)) hs, ho, ⟨bm, lev', rv', ct', ms', d.filter (late a), hR, hS, hm, ?_, hH.ok.go ha⟩, hK⟩
    · rw [← hH.xs, List.filter_map]
      rfl
    · show _ = List.filter _ s.xs
      rw [← hH.xs, List.filter_map]
      rfl
set_option maxHeartbeats 400000 in
theorem go_no (h : Whl w g X s) {to : Int} (ht : to ≤ (s.now : Int) ∨ 1099511627776 < to) :
    Calls Try.prog 14 #[ptr g, .int .i64 to] w fun e w' => e = .returned (.slice none 0 0) ∧ w = w' := by
  have m1 : w.cell? ⟨g, 1, none⟩ = some (.int .i64 (s.now : Int)) := by obtain ⟨bm, lev, rv, ct, ms, d, hH⟩ := h; exact hH.raw.c1
  have hn := h.ok.now
  clear h
  unfold ptr
  cases hg : goodB to with
  | false =>
    have HG := Lib.hid hg
    clear hg ht
    go_enter Try.func14, Try.ntmps14
    go_wp2_with (go_at_call 21; refine (good_no _ HG.out).mono ?_; rintro e w' ⟨rfl, rfl⟩)
    go_ret
    exact ⟨rfl, rfl⟩
  | true =>
    have HG := Lib.hid hg
    have h1 := of_decide_eq_true hg
    have e1 : decide (to ≤ (s.now : Int)) = true := decide_eq_true (by omega)
    clear hg ht
    go_enter Try.func14, Try.ntmps14
    go_wp2_with (go_at_call 21; refine (good_yes _ HG.out).mono ?_; rintro e w' ⟨rfl, rfl⟩)
    go_ret
    exact ⟨rfl, rfl⟩
/-- where Go's loop stands: the time is a, and the timers that were due by it have gone -/
structure GoAt (w wr : World) (g : Nat) (X : Nat → Prop) (s : Ws) (to a : Nat) (l : List T) (gv : Value) : Prop where
  whl : Whl wr g (fun b => X b ∨ gv.ownBlock = some b) (s.go a)
  le : s.now ≤ a ∧ a ≤ to
  gone : Gone s.xs a l
  row : wr.ownsRow w.heap.size 34 3 gv l.length (cellsT l)
  keep : Keep X w wr
/-- the slots of the first timer -/
def AtSlots (xs : List T) (to : Nat) (u v : Value) : Prop :=
  (∃ y, y ∈ xs ∧ (∀ x ∈ xs, y.due ≤ x.due) ∧ u = .int .i64 (y.due : Int) ∧ v = .bool true) ∨ ((∀ x ∈ xs, to < x.due) ∧ u = .int .i64 0 ∧ v = .bool false)
theorem GoAt.small {wr : World} {to a : Nat} {l : List T} {gv : Value} (h : GoAt w wr g X s to a l gv) (ho : s.Ok) : l.length ≤ 65536 := by
  have h1 := h.gone.1.length_eq
  have h2 : (s.xs.filter fun x => decide (x.due ≤ a)).length ≤ s.xs.length := List.length_filter_le _ _
  have := ho.len
  have := ho.cap
  omega
/-- a tick more -/
theorem GoAt.on {wr w2 w3 : World} {to a : Nat} {l ts : List T} {gv gv2 gv3 : Value} {y : T} (h : GoAt w wr g X s to a l gv) (hw : ∀ b, X b → b < w.heap.size) (hy : y.due ≤ to) (hya : a ≤ y.due)
    (hg2 : Gone (s.go a).xs y.due ts) (hW : Whl w2 g (fun b => (X b ∨ gv.ownBlock = some b) ∨ gv2.ownBlock = some b) ((s.go a).go y.due)) (hK : Keep (fun b => X b ∨ gv.ownBlock = some b) wr w2)
    (hr3 : w3.ownsRow w.heap.size 34 3 gv3 (l.length + ts.length) (cellsT l ++ cellsT ts)) (hg3 : w2.grownBy w3 gv.ownBlock) (hat : gv3.ownBlock = gv.ownBlock ∨ gv3.ownBlock = some w2.heap.size) : GoAt w w3 g X s to y.due (l ++ ts) gv3 := by
  have e : (s.go a).go y.due = s.go y.due := by
    unfold Ws.go
    simp only [stays_stays hya]
  rw [e] at hW
  refine ⟨?_, ⟨by have := h.le.1; omega, hy⟩, gone_app h.gone hg2 hya, ?_, ?_⟩
  · obtain ⟨bm, lev, rv, ct, ms, d, hq⟩ := hW
    have hR3 := hq.raw.grownx hg3 (fun b hb => .inl (.inr hb))
    refine hq.on (hR3.other fun b hb => ?_)
    have hold : ((X b ∨ gv.ownBlock = some b) ∨ gv2.ownBlock = some b) → b < w3.heap.size ∧ ¬ Own g bm lev rv ct b := fun hx => ⟨hR3.xlt b hx, fun hown => hR3.xown hown hx⟩
    rcases hb with hx | hx
    · exact hold (.inl (.inl hx))
    · rcases hat with h1 | h1
      · exact hold (.inl (.inr (h1 ▸ hx)))
      · have hlt := own_lt hr3 hx
        refine ⟨hlt, fun hown => ?_⟩
        rw [h1] at hx
        injection hx with hx
        have := hq.raw.olt hown
        omega
  · rw [List.length_append, cellsT_app]
    exact hr3
  · refine (h.keep.trans (hK.mono fun b hb => .inl hb)).trans (Keep.of_grown hg3 fun b hb hx => ?_)
    have h2 := hw b hx
    have h3 := (own_blk h.row hb).1
    omega
theorem go_dues (s : Ws) (a : Nat) : ∀ x ∈ (s.go a).xs, (s.go a).now < x.due := fun _ hx => of_decide_eq_true (List.mem_filter.1 hx).2
theorem GoAt.below {wr w1 : World} {to a : Nat} {l : List T} {gv : Value} (h : GoAt w wr g X s to a l gv) (hb : Below wr.heap.size wr w1) : GoAt w w1 g X s to a l gv :=
  ⟨h.whl.below hb, h.le, h.gone, own_stay h.row fun b hx => hb.block b (own_lt h.row hx), h.keep.trans (Keep.of_below hb)⟩
/-- the loop is over -/
theorem GoAt.over {wr w2 : World} {to a : Nat} {l : List T} {gv : Value} (h : GoAt w wr g X s to a l gv) (hno : ∀ x ∈ (s.go a).xs, to < x.due) {e : Ending} (hs : GoneEnd wr g (fun b => X b ∨ gv.ownBlock = some b) (s.go a) to e w2) : GoneEnd w g X s to (.returned gv) w2 := by
  obtain ⟨gv3, l3, _, hg3, _, hW, hK⟩ := hs
  have e1 : (s.go a).go to = s.go to := by
    unfold Ws.go
    simp only [stays_stays h.le.2]
  rw [e1] at hW
  have h0 := (gone_none hno).1
  have hg : Gone s.xs to (l ++ []) := gone_app h.gone h0 h.le.2
  rw [List.append_nil] at hg
  exact ⟨gv, l, rfl, hg, own_keep h.row hK (fun b hb => .inr hb), hW.less (fun b hb => .inl hb), h.keep.trans (hK.mono fun b hb => .inl hb)⟩
/-- one timer fewer at least -/
theorem go_less {a q : Nat} {y : T} (hya : a < y.due) (hy : y ∈ (s.go a).xs) (hl : (s.go a).xs.length ≤ q + 1) : (s.go y.due).xs.length ≤ q := by
  have e : (s.go y.due).xs = (s.go a).xs.filter fun x => decide (y.due < x.due) := (stays_stays (xs := s.xs) (Nat.le_of_lt hya)).symm
  rw [e]
  have : ((s.go a).xs.filter fun x => decide (y.due < x.due)).length < (s.go a).xs.length := by
    rw [← List.countP_eq_length_filter]
    refine Nat.lt_of_le_of_ne (List.countP_le_length) fun h => ?_
    have := List.countP_eq_length.1 h y hy
    simp at this
  omega
set_option maxHeartbeats 4000000 in
set_option maxRecDepth 100000 in
theorem go_any (h : Whl w g X s) (hlast : s.last < 4611686018427387904) {to : Nat} (h1 : s.now < to) (ht : to ≤ 1099511627776) :
    Calls Try.prog 14 #[ptr g, .int .i64 (to : Int)] w (GoneEnd w g X s to) := by
  obtain ⟨i0, hi0, hz0, hz1, hz2⟩ := info_parts infoA
  have m1 : w.cell? ⟨g, 1, none⟩ = some (.int .i64 (s.now : Int)) := by obtain ⟨bm, lev, rv, ct, ms, d, hH⟩ := h; exact hH.raw.c1
  have HG : Hid (goodB (to : Int) = true) := decide_eq_true (by omega)
  have e1 : decide ((to : Int) ≤ (s.now : Int)) = false := decide_eq_false (by omega)
  have hok := h.ok
  have hd0 : ∀ x ∈ s.xs, s.now < x.due := fun x hx => by have := hok.due x hx; omega
  have hxl := h.xlt
  have HX := Lib.hid hxl
  have HO := Lib.hid hok
  have HN := Lib.hid (nxt_any h hd0 ht)
  have h0 : GoAt w w g X s to s.now [] nil_ := by
    have hs : s.go s.now = s := by
      unfold Ws.go
      rw [(gone_none hd0).2]
    refine ⟨?_, ⟨Nat.le_refl _, by omega⟩, (gone_none hd0).1, World.ownsRow_nil _ _ _ _, Keep.refl _ _⟩
    rw [hs]
    exact h.less fun b hb => by
      rcases hb with e | e
      · exact e
      · simp [nil_, Value.ownBlock] at e
  have H0 := Lib.hid h0
  have hss : (s.go s.now).xs = s.xs := (gone_none hd0).2
  have HSS := Lib.hid hss
  clear h hok hd0 hxl h0 hss
  unfold ptr
  unfold ptr at HN
  unfold nil_ at H0
  go_enter Try.func14, Try.ntmps14
  go_wp2_with (first
    | (go_at_call 21; refine (good_yes _ HG.out).mono ?_; rintro e w' ⟨rfl, rfl⟩)
    | (go_at_call 26; refine HN.out.mono ?_; rintro e w1 ⟨hnx, hb⟩
       have H1 := Lib.hid (H0.out.below hb)
       rw [← HSS.out] at hnx
       obtain ⟨u, v, hev, hsl⟩ : ∃ u v, e = .returned (.tuple #[u, v]) ∧ AtSlots (s.go s.now).xs to u v := by
         rcases hnx with ⟨y, hy, hm, rfl⟩ | ⟨hm, rfl⟩
         · exact ⟨_, _, rfl, .inl ⟨y, hy, hm, rfl, rfl⟩⟩
         · exact ⟨_, _, rfl, .inr ⟨hm, rfl, rfl⟩⟩
       subst hev
       have HSL := Lib.hid hsl
       clear hnx hb hsl))
  go_loopg [5, 6, 7] s.xs.length (fun q s5 s6 s7 wr => ∃ a l, Hid (GoAt w wr g X s to a l s5) ∧ Hid (AtSlots (s.go a).xs to s6 s7) ∧ (s.go a).xs.length ≤ q)
  case atStart => exact ⟨s.now, [], H1.out, HSL.out, by rw [HSS.out]; exact Nat.le_refl _⟩
  case round =>
    obtain ⟨a, l, HA, HB, hlen⟩ := hrel
    have HS := fun (b : Nat) (hb : a ≤ b) (hbt : b ≤ to) (hd : ∀ x ∈ (s.go a).xs, b ≤ x.due) => stp_any (s := s.go a) HA.out.whl (by exact Nat.lt_succ_of_lt hlast) hb (by omega) (fun x hx => ⟨hd x hx, go_dues s a x hx⟩)
    have hle := HA.out.le
    have hsm := HA.out.small HO.out
    have HS' := Lib.hid HS
    clear HS
    unfold ptr at HS'
    rcases HB.out with ⟨y, hy, hm, rfl, rfl⟩ | ⟨hm, rfl, rfl⟩
    · by_cases hyt : y.due ≤ to
      · have e2 : decide (y.due ≤ to) = true := decide_eq_true hyt
        cases gk with
        | zero =>
          have : (s.go a).xs = [] := List.eq_nil_of_length_eq_zero (by omega)
          rw [this] at hy
          cases hy
        | succ q =>
          have hya : a < y.due := go_dues s a y hy
          have HQ := Lib.hid (HS'.out y.due (by omega) hyt hm)
          have HY := Lib.hid (And.intro hy hm)
          clear hy hm
          go_wp2_with (first
            | (go_at_call 27; refine HQ.out.mono ?_; rintro e w2 ⟨gv2, ts, rfl, hg2, hr2, hW2, hK2⟩
               have hyts : y ∈ ts := hg2.1.mem_iff.2 (List.mem_filter.2 ⟨HY.out.1, by simp⟩)
               have hgr := hr2
               obtain ⟨r2, c2, rfl⟩ : ∃ r2 c2, gv2 = .slice (some ⟨r2, 0, none⟩) ts.length c2 := by
                 rcases hgr.2 with ⟨_, h0⟩ | ⟨r2, c2, cur, hv, _⟩
                 · rw [List.eq_nil_of_length_eq_zero h0] at hyts
                   cases hyts
                 · exact ⟨r2, c2, hv⟩
               have hcl := hr2.cells (g := r2) rfl
               have hu5 := own_keep HA.out.row hK2 (fun b hb => Or.inr hb)
               have hts : ts.length ≤ 65536 := by
                 have h1 := hg2.1.length_eq
                 have h2 : ((s.go a).xs.filter fun x => decide (x.due ≤ y.due)).length ≤ (s.go a).xs.length := List.length_filter_le _ _
                 have h3 : (s.go a).xs.length ≤ s.xs.length := List.length_filter_le _ _
                 have := HO.out.len
                 have := HO.out.cap
                 omega
               have h1c : ∀ u ∈ cellsT ts, u.oneCell' = true := fun u hu => by
                 obtain ⟨t, _, ht⟩ := List.mem_flatMap.1 hu
                 simp only [T.cells, List.mem_cons, List.not_mem_nil, or_false] at ht
                 rcases ht with rfl | rfl | rfl <;> rfl
               have hbs : w.heap.size ≤ w2.heap.size := Nat.le_trans HA.out.keep.size hK2.size
               have HON := Lib.hid (fun (w3 : World) (gv3 : Value) => HA.out.on (w3 := w3) (gv3 := gv3) HX.out hyt (by omega) hg2 hW2 hK2)
               have H1C := Lib.hid h1c
               have HCL := Lib.hid hcl
               have HU5 := Lib.hid hu5
               clear hg2 hr2 hgr hW2 hK2 hyts hcl hu5 h1c)
            | (at_builtin; refine wpList_append_own_at _ rfl (.tmp 37) (.tmp 40) 26 rfl w.heap.size 34 i0 (.agg #[.int .i64 0, .int .i64 0, .int .i64 0]) 3 24 Try.underlying26 hi0 hz0 hz1 hz2 rfl (by decide) u5 l.length (cellsT l) rfl HU5.out ⟨r2, 0, none⟩ ts.length c2 (cellsT ts) rfl (cellsT_len ts) HCL.out H1C.out (by unfold maxLen; omega) (by omega) hbs ?_
               intro v1 w3 hown3 hg3 _ hat3
               have hF := HON.out _ _ hown3 hg3 hat3
               have HN2 := Lib.hid (nxt_any hF.whl (go_dues s y.due) ht)
               have HF := Lib.hid hF
               unfold ptr at HN2
               clear hown3 hg3 hat3 hF)
            | (go_at_call 26; refine HN2.out.mono ?_; rintro e w4 ⟨hnx, hb⟩
               have HF4 := Lib.hid (HF.out.below hb)
               obtain ⟨u, v, hev, hsl⟩ : ∃ u v, e = .returned (.tuple #[u, v]) ∧ AtSlots (s.go y.due).xs to u v := by
                 rcases hnx with ⟨z, hz, hm, rfl⟩ | ⟨hm, rfl⟩
                 · exact ⟨_, _, rfl, .inl ⟨z, hz, hm, rfl, rfl⟩⟩
                 · exact ⟨_, _, rfl, .inr ⟨hm, rfl, rfl⟩⟩
               subst hev
               have HSL2 := Lib.hid hsl
               clear hnx hb hsl))
          go_roundg q
          case rel => exact ⟨y.due, _, HF4.out, HSL2.out, go_less hya HY.out.1 hlen⟩
          case measure => omega
      · have e2 : decide (y.due ≤ to) = false := decide_eq_false hyt
        have HQ := Lib.hid (HS'.out to (by omega) (Nat.le_refl _) (fun x hx => by have := hm x hx; omega))
        have HV := Lib.hid (fun (e : Ending) (w2 : World) => HA.out.over (w2 := w2) (e := e) (fun x hx => by have := hm x hx; omega))
        clear hy hm
        go_wp2_with (go_at_call 27; refine HQ.out.mono ?_; intro e w2 hge; have HF := Lib.hid (HV.out _ _ hge); obtain ⟨gv2, ts, rfl, _, _, _, _⟩ := hge)
        go_ret
        exact HF.out
    · have HQ := Lib.hid (HS'.out to (by omega) (Nat.le_refl _) (fun x hx => by have := hm x hx; omega))
      have HV := Lib.hid (fun (e : Ending) (w2 : World) => HA.out.over (w2 := w2) (e := e) hm)
      clear hm
      go_wp2_with (go_at_call 27; refine HQ.out.mono ?_; intro e w2 hge; have HF := Lib.hid (HV.out _ _ hge); obtain ⟨gv2, ts, rfl, _, _, _, _⟩ := hge)
      go_ret
      exact HF.out
end
end Go.Proofs.Ytobodianbjfgfaa.Wh
