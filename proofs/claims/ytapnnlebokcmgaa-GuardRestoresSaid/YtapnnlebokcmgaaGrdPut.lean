/-
  What add answers and leaves: the walk.
  Conditions: the guard is one, and has at most 63 parties; the name has at most 2^45 bytes.
-/
import Derived.Test.YtapnnlebokcmgaaGrdAdd
import Derived.Deep.RegionLaw
namespace Go.Proofs.Ytapnnlebokcmgaa.Gd
open Go.RowKit
open Go.Proofs.Ytapnnlebokcmgaa.Bk (S Brk Aft kind ret_int ret_bool)
/-- what add leaves -/
def Added (w : World) (g : Nat) (X : Nat → Prop) (L : List Gt) (p : Pty) (e : Ending) (w' : World) : Prop :=
  e = .returned (.int .i64 (addE L p)) ∧ Did w g X (if addE L p = 0 then L ++ [gnew p] else L) w'
def Pty.arr (p : Pty) : Array Value := #[.string p.nm, .int .i64 p.seats, .int .i64 p.trip, .int .i64 p.cool, .int .i64 p.probes]
section
variable {w : World} {g : Nat} {X : Nat → Prop} {v : Value} {rs : List Rt}
theorem Raw.added_no (h : Raw w g X v rs) {w' : World} (hb : Below w.heap.size w w') {p : Pty} {e : Int} (he : addE (rs.map Rt.t) p = e) (h0 : e ≠ 0) : Added w g X (rs.map Rt.t) p (.returned (.int .i64 e)) w' := by
  subst he
  refine ⟨rfl, ?_⟩
  rw [if_neg h0]
  exact ⟨⟨v, rs, h.below hb, rfl⟩, Keep.of_below hb⟩
theorem addE_brk {L : List Gt} {p : Pty} (h : brkB p = false) : addE L p = 3 := by unfold addE rightB; rw [h]; rfl
theorem addE_name {L : List Gt} {p : Pty} (h : nameB p.nm.data.toList = false) : addE L p = 3 := by
  unfold addE rightB
  rw [h]
  simp
theorem addE_seats {L : List Gt} {p : Pty} (h : p.seats < 1 ∨ 10000 < p.seats) : addE L p = 3 := by
  have h1 : (decide (1 ≤ p.seats) && decide (p.seats ≤ 10000)) = false := by
    rw [Bool.and_eq_false_iff, decide_eq_false_iff_not, decide_eq_false_iff_not]
    omega
  unfold addE rightB
  rw [h1]
  simp
theorem rightB_yes {p : Pty} (h1 : brkB p = true) (h2 : nameB p.nm.data.toList = true) (h3 : 1 ≤ p.seats) (h4 : p.seats ≤ 10000) : rightB p = true := by
  unfold rightB
  rw [h1, h2, decide_eq_true h3, decide_eq_true h4]
  rfl
theorem addE_like {L : List Gt} {p : Pty} (h : rightB p = true) (hf : findI L p.nm ≠ -1) : addE L p = 6 := by unfold addE; rw [if_pos h, if_neg hf]
theorem addE_yes {L : List Gt} {p : Pty} (h : rightB p = true) (hf : findI L p.nm = -1) : addE L p = 0 := by unfold addE; rw [if_pos h, if_pos hf]
/-- a party that lies in a variable: its cells -/
theorem party_cells {w' : World} {b : Nat} {p : Pty} (h : Box w' b 37 p.arr) : w'.cell? ⟨b, 0, none⟩ = some (.string p.nm) ∧ w'.cell? ⟨b, 1, none⟩ = some (.int .i64 p.seats) ∧ w'.cell? ⟨b, 2, none⟩ = some (.int .i64 p.trip) ∧ w'.cell? ⟨b, 3, none⟩ = some (.int .i64 p.cool) ∧ w'.cell? ⟨b, 4, none⟩ = some (.int .i64 p.probes) :=
  ⟨h.cell 0, h.cell 1, h.cell 2, h.cell 3, h.cell 4⟩
set_option maxHeartbeats 2000000 in
theorem add_brk (h : Raw w g X v rs) (p : Pty) (hb : brkB p = false) : Calls Try.prog 14 #[ptr g, p.val] w (Added w g X (rs.map Rt.t) p) := by
  have hB0 := (Below.refl w.heap.size w).alloc (Nat.le_refl _) (.cells p.arr 37)
  have HN := Lib.hid (newB_no p (w.alloc (.cells p.arr 37)) hb)
  have HE := Lib.hid fun w' hbw => h.added_no (w' := w') hbw (addE_brk (L := rs.map Rt.t) hb) (by decide)
  have HB := Lib.hid hB0
  clear h hb hB0
  unfold ptr
  unfold Pty.arr at HN HB
  unfold Pty.val at HN ⊢
  go_enter Try.func14, Try.ntmps14
  go_wp2_with (go_at_call 20; refine HN.out.mono ?_; rintro e w1 ⟨rfl, hb1⟩)
  go_ret
  exact HE.out _ (HB.out.trans (hb1.mono (by simp)))
/-- what stands behind newBreaker: the new breaker, and nothing that was there has turned -/
def Stands (w : World) (b : Nat) (p : Pty) (w1 : World) : Prop := Box w1 w.heap.size 37 p.arr ∧ w.heap.size < b ∧ Brk w1 b (gnew p).s ∧ Below w.heap.size w w1
theorem Stands.on {w w1 w2 : World} {b : Nat} {p : Pty} (h : Stands w b p w1) (hb : Below w1.heap.size w1 w2) : Stands w b p w2 :=
  ⟨h.1.below hb h.1.lt, h.2.1, h.2.2.1.below hb h.2.2.1.box.lt, h.2.2.2.trans (hb.mono h.2.2.2.size)⟩
theorem newB_at (p : Pty) (w : World) (h : p.Brk) : Calls Try.prog 20 #[p.val] (w.alloc (.cells p.arr 37)) fun e w' => ∃ b, e = .returned (.pointer (some ⟨b, 0, none⟩)) ∧
    ((w'.cell? ⟨w.heap.size, 0, none⟩ = some (.string p.nm) ∧ w'.cell? ⟨w.heap.size, 1, none⟩ = some (.int .i64 p.seats) ∧ w'.cell? ⟨w.heap.size, 2, none⟩ = some (.int .i64 p.trip) ∧ w'.cell? ⟨w.heap.size, 3, none⟩ = some (.int .i64 p.cool) ∧ w'.cell? ⟨w.heap.size, 4, none⟩ = some (.int .i64 p.probes)) ∧ Stands w b p w') := by
  refine (newB_yes p _ h).mono ?_
  rintro e w' ⟨b, rfl, h1, h2, h3⟩
  have hbx : Box w' w.heap.size 37 p.arr := (Box.new w 37 p.arr).below h3 (by simp)
  refine ⟨b, rfl, party_cells hbx, hbx, ?_, h2, ((Below.refl w.heap.size w).alloc (Nat.le_refl _) _).trans (h3.mono (by simp))⟩
  simp at h1
  omega
theorem on_cells {w w1 w2 : World} {b : Nat} {p : Pty} (h : Stands w b p w1) (hb : Below w1.heap.size w1 w2) :
    (w2.cell? ⟨w.heap.size, 0, none⟩ = some (.string p.nm) ∧ w2.cell? ⟨w.heap.size, 1, none⟩ = some (.int .i64 p.seats) ∧ w2.cell? ⟨w.heap.size, 2, none⟩ = some (.int .i64 p.trip) ∧ w2.cell? ⟨w.heap.size, 3, none⟩ = some (.int .i64 p.cool) ∧ w2.cell? ⟨w.heap.size, 4, none⟩ = some (.int .i64 p.probes)) ∧ Stands w b p w2 :=
  ⟨party_cells (h.on hb).1, h.on hb⟩
set_option maxHeartbeats 2000000 in
theorem add_bad (h : Raw w g X v rs) (p : Pty) (hs : p.nm.size ≤ 35184372088832) (hb : brkB p = true) (hbad : nameB p.nm.data.toList = false ∨ p.seats < 1 ∨ 10000 < p.seats) : Calls Try.prog 14 #[ptr g, p.val] w (Added w g X (rs.map Rt.t) p) := by
  have he : addE (rs.map Rt.t) p = 3 := by
    rcases hbad with h1 | h1
    · exact addE_name h1
    · exact addE_seats h1
  have HN := Lib.hid (newB_at p w (brkB_yes hb))
  have HE := Lib.hid fun w' hbw => h.added_no (w' := w') hbw he (by decide)
  have HS := Lib.hid fun (w1 w2 : World) b (h1 : Stands w b p w1) (h2 : Below w1.heap.size w1 w2) => on_cells h1 h2
  by_cases hn : nameB p.nm.data.toList = true
  · have HL := Lib.hid fun w => good_any p.nm w hs
    rw [hn] at HL
    by_cases h1 : p.seats < 1
    · clear h hb he hbad hn
      unfold ptr
      unfold Pty.arr at HN
      unfold Pty.val at HN ⊢
      go_enter Try.func14, Try.ntmps14
      go_wp2_with (first
      | (go_at_call 20; refine HN.out.mono ?_; rintro e w1 ⟨b, rfl, hQ1⟩; obtain ⟨⟨p0, p1, p2, p3, p4⟩, hQ⟩ := hQ1; have HQ := Lib.hid hQ; clear hQ)
      | (go_at_call 22; refine (HL.out _).mono ?_; rintro e w2 ⟨rfl, hb2⟩; have hq2 := HS.out _ _ _ HQ.out hb2; obtain ⟨⟨q0, q1, q2, q3, q4⟩, hT⟩ := hq2; have HT := Lib.hid hT; clear hT hb2))
      go_ret
      exact HE.out _ HT.out.2.2.2
    · have h2 : 10000 < p.seats := by
        rcases hbad with h3 | h3 | h3
        · rw [hn] at h3; cases h3
        · exact absurd h3 h1
        · exact h3
      clear h hb he hbad hn
      unfold ptr
      unfold Pty.arr at HN
      unfold Pty.val at HN ⊢
      go_enter Try.func14, Try.ntmps14
      go_wp2_with (first
      | (go_at_call 20; refine HN.out.mono ?_; rintro e w1 ⟨b, rfl, hQ1⟩; obtain ⟨⟨p0, p1, p2, p3, p4⟩, hQ⟩ := hQ1; have HQ := Lib.hid hQ; clear hQ)
      | (go_at_call 22; refine (HL.out _).mono ?_; rintro e w2 ⟨rfl, hb2⟩; have hq2 := HS.out _ _ _ HQ.out hb2; obtain ⟨⟨q0, q1, q2, q3, q4⟩, hT⟩ := hq2; have HT := Lib.hid hT; clear hT hb2))
      go_ret
      exact HE.out _ HT.out.2.2.2
  · have hn' : nameB p.nm.data.toList = false := by simpa using hn
    have HL := Lib.hid fun w => good_any p.nm w hs
    rw [hn'] at HL
    clear h hb he hbad hn hn'
    unfold ptr
    unfold Pty.arr at HN
    unfold Pty.val at HN ⊢
    go_enter Try.func14, Try.ntmps14
    go_wp2_with (first
      | (go_at_call 20; refine HN.out.mono ?_; rintro e w1 ⟨b, rfl, hQ1⟩; obtain ⟨⟨p0, p1, p2, p3, p4⟩, hQ⟩ := hQ1; have HQ := Lib.hid hQ; clear hQ)
      | (go_at_call 22; refine (HL.out _).mono ?_; rintro e w2 ⟨rfl, hb2⟩; have hq2 := HS.out _ _ _ HQ.out hb2; obtain ⟨⟨q0, q1, q2, q3, q4⟩, hT⟩ := hq2; have HT := Lib.hid hT; clear hT hb2))
    go_ret
    exact HE.out _ HT.out.2.2.2
theorem own_form7 {w : World} {base : Nat} {e : TypeId} {v : Value} {n : Nat} {xs : List Value} (h : w.ownsRow base e 7 v n xs) : ∃ A c, v = .slice A n c := by
  rcases h.2 with ⟨rfl, rfl⟩ | ⟨g, cap, cur, rfl, _⟩
  · exact ⟨_, _, rfl⟩
  · exact ⟨_, _, rfl⟩
theorem cell_on {u : World} {b k : Nat} {x : Value} (h : u.cell? ⟨b, k, none⟩ = some x) (o : Obj) : (u.alloc o).cell? ⟨b, k, none⟩ = some x := by
  rw [World.cell?_alloc_past _ _ _ (World.block_lt_of_cell? _ _ h)]
  exact h
set_option maxHeartbeats 4000000 in
set_option maxRecDepth 100000 in
theorem add_good (h : Raw w g X v rs) (hl : rs.length ≤ 63) (p : Pty) (hs : p.nm.size ≤ 35184372088832) (hr : rightB p = true) : Calls Try.prog 14 #[ptr g, p.val] w (Added w g X (rs.map Rt.t) p) := by
  have hpo := rightB_ok hr
  have hb : brkB p = true := by
    unfold rightB at hr
    simp only [Bool.and_eq_true] at hr
    exact hr.1
  have hn : nameB p.nm.data.toList = true := by
    unfold rightB at hr
    simp only [Bool.and_eq_true] at hr
    exact hr.2.1
  obtain ⟨s1, s2⟩ := hpo.seats
  have HN := Lib.hid (newB_at p w hpo.brk)
  have HS := Lib.hid fun (w1 w2 : World) b (h1 : Stands w b p w1) (h2 : Below w1.heap.size w1 w2) => on_cells h1 h2
  have HL := Lib.hid fun w => good_any p.nm w hs
  rw [hn] at HL
  have HF := Lib.hid fun w' (hbw : Below w.heap.size w w') => find_raw (h.below hbw) p.nm
  unfold ptr at HF ⊢
  by_cases hf : findI (rs.map Rt.t) p.nm = -1
  · have he := addE_yes hr hf
    have HG := Lib.hid fun w' (hbw : Below w.heap.size w w') => (h.below hbw).box.cell 0
    obtain ⟨A, c, hv⟩ := h.vform
    obtain ⟨i0, hi0, hz0, hz1, hz2⟩ := info_parts infoG
    have hfin : ∀ (w3 : World) (b q : Nat) (o : Obj) (w4 : World) (v' : Value), Stands w b p w3 → ((w3.drewN q).alloc o).grownBy w4 v.ownBlock → w4.ownsRow 0 48 7 v' (rs.length + 1) (cellsG rs ++ (Rt.cells ⟨b, gnew p⟩)) → (v'.ownBlock = v.ownBlock ∨ v'.ownBlock = some (w3.heap.size + 1)) →
        (w4.cell? ⟨g, 0, none⟩ = some v ∧ w4.cell? ⟨w.heap.size, 0, none⟩ = some (.string p.nm) ∧ w4.cell? ⟨w.heap.size, 1, none⟩ = some (.int .i64 p.seats) ∧ w4.cell? ⟨w.heap.size, 2, none⟩ = some (.int .i64 p.trip) ∧ w4.cell? ⟨w.heap.size, 3, none⟩ = some (.int .i64 p.cool) ∧ w4.cell? ⟨w.heap.size, 4, none⟩ = some (.int .i64 p.probes)) ∧ w4.frozen? ⟨g, 0, none⟩ = false ∧ Added w g X (rs.map Rt.t) p (.returned (.int .i64 0)) (w4.setCell ⟨g, 0, none⟩ v') := fun w3 b q o w4 v' hst hg4 ho4 hat => by
      have h3 := h.below hst.2.2.2
      have hbx := h3.box.lt
      have hB4 : Box w4 g 42 #[v] := ((Box.alloc (Box.drewN h3.box q) o).grown hg4 (fun e => h3.gr e.symm))
      obtain ⟨hR, hK⟩ := h3.grew hl (x := ⟨b, gnew p⟩) hst.2.2.1 (fun e => by have h4 := h.olt e; have h5 := hst.2.1; have h6 : b < w.heap.size := h4; omega) (fun e => by have h4 := h.xlt b e; have h5 := hst.2.1; omega) (gnew_ok hpo) hg4 ho4 hat
      have hP4 : Box w4 w.heap.size 37 p.arr := (Box.alloc (Box.drewN hst.1 q) o).grown hg4 (fun e => by have h4 := h.olt (.inr (.inl e.symm)); omega)
      refine ⟨⟨hB4.cell 0, party_cells hP4⟩, hB4.frozen 0, ret_int he.symm, ?_⟩
      rw [if_pos he]
      exact ⟨⟨_, _, hR, by simp⟩, (Keep.of_below hst.2.2.2).trans hK⟩
    have HE := Lib.hid hfin
    have HR := Lib.hid fun w' (hbw : Below w.heap.size w w') => (h.below hbw).row
    have hgl := h.box.lt
    rw [hf] at HF
    clear h hb hn hr hf hfin he hpo
    subst hv
    unfold Pty.arr at HN
    unfold Pty.val at HN ⊢
    go_enter Try.func14, Try.ntmps14
    go_wp2_with (first
      | (go_at_call 20; refine HN.out.mono ?_; rintro e w1 ⟨b, rfl, hQ1⟩; obtain ⟨⟨p0, p1, p2, p3, p4⟩, hQ⟩ := hQ1; have HQ := Lib.hid hQ; clear hQ)
      | (go_at_call 22; refine (HL.out _).mono ?_; rintro e w2 ⟨rfl, hb2⟩; have hq2 := HS.out _ _ _ HQ.out hb2; obtain ⟨⟨q0, q1, q2, q3, q4⟩, hT⟩ := hq2; have HT := Lib.hid hT; clear hT hb2)
      | (go_at_call 23; refine (HF.out _ HT.out.2.2.2).mono ?_; rintro e w3 ⟨rfl, hb3⟩; have hq3 := HS.out _ _ _ HT.out hb3; obtain ⟨⟨r0, r1, r2, r3, r4⟩, hU⟩ := hq3; have HU := Lib.hid hU; have c0 := HG.out _ HU.out.2.2.2; simp only [List.getElem?_toArray, List.getElem?_cons_zero] at c0; have HW := Lib.hid (HR.out _ HU.out.2.2.2); clear hU hb3))
    have ca : ∀ o, (w3.alloc o).cell? ⟨g, 0, none⟩ = some (.slice A rs.length c) := fun o => cell_on (u := w3) c0 o
    go_region_law (refine step_append_at _ rfl (.tmp 31) (.tmp 35) 40 rfl 0 48 i0 zeroG 7 64 Try.underlying40 hi0 hz0 hz1 hz2 rfl (by decide) (.slice A rs.length c) rs.length (cellsG rs) (by simp [Act.eval]) (HW.out.drew.alloc _) ⟨w3.heap.size, 0, none⟩ 1 1 (Rt.cells ⟨b, gnew p⟩) (by simp [Act.eval]) rfl (new_cells w3.drew _ _) (cells_one _) (by unfold maxLen; omega) (by omega) (Nat.zero_le _) ?_; intro v4 w4 hown4 hg4 hat4; have hq4 := HE.out w3 b 1 _ w4 v4 HU.out hg4 hown4 (by simpa using hat4); obtain ⟨A4, c4, rfl⟩ := own_form7 hown4; obtain ⟨hsix, f4, hD⟩ := hq4; have HD := Lib.hid hD; clear hD hown4 hg4 hat4)
    all_goals
      go_wp2
      go_ret
      exact HD.out
  · have he := addE_like hr hf
    have HE := Lib.hid fun w' hbw => h.added_no (w' := w') hbw he (by decide)
    have hfb : (findI (rs.map Rt.t) p.nm != -1) = true := by simpa using hf
    generalize findI (rs.map Rt.t) p.nm = fi at HF hfb
    clear h hb hn hr hf he hpo
    unfold Pty.arr at HN
    unfold Pty.val at HN ⊢
    go_enter Try.func14, Try.ntmps14
    go_wp2_with (first
      | (go_at_call 20; refine HN.out.mono ?_; rintro e w1 ⟨b, rfl, hQ1⟩; obtain ⟨⟨p0, p1, p2, p3, p4⟩, hQ⟩ := hQ1; have HQ := Lib.hid hQ; clear hQ)
      | (go_at_call 22; refine (HL.out _).mono ?_; rintro e w2 ⟨rfl, hb2⟩; have hq2 := HS.out _ _ _ HQ.out hb2; obtain ⟨⟨q0, q1, q2, q3, q4⟩, hT⟩ := hq2; have HT := Lib.hid hT; clear hT hb2)
      | (go_at_call 23; refine (HF.out _ HT.out.2.2.2).mono ?_; rintro e w3 ⟨rfl, hb3⟩))
    go_ret
    exact HE.out _ (HT.out.on hb3).2.2.2
theorem add_any (h : Raw w g X v rs) (hl : rs.length ≤ 63) (p : Pty) (hs : p.nm.size ≤ 35184372088832) : Calls Try.prog 14 #[ptr g, p.val] w (Added w g X (rs.map Rt.t) p) := by
  cases hb : brkB p with
  | false => exact add_brk h p hb
  | true =>
    cases hr : rightB p with
    | true => exact add_good h hl p hs hr
    | false =>
      refine add_bad h p hs hb ?_
      unfold rightB at hr
      rw [hb, Bool.true_and] at hr
      rcases Bool.and_eq_false_iff.1 hr with h1 | h1
      · exact .inl h1
      · rcases Bool.and_eq_false_iff.1 h1 with h2 | h2
        · have := of_decide_eq_false h2
          exact .inr (.inl (by omega))
        · have := of_decide_eq_false h2
          exact .inr (.inr (by omega))
end
end Go.Proofs.Ytapnnlebokcmgaa.Gd
