/-
  What the functions of package guard that read a guard answer: gate, Flying, State, May.
  Conditions: the guard is one.
-/
import Derived.Test.YtapnnlebokcmgaaGrdMem
import Derived.Test.YtapnnlebokcmgaaLabRunes
namespace Go.Proofs.Ytapnnlebokcmgaa.Gd
open Go.RowKit
open Go.Proofs.Ytapnnlebokcmgaa.Bk (S Brk Aft kind ret_int ret_bool)

/-- a gate's cells, at a place -/
structure Cs (w : World) (r q : Nat) (x : Rt) : Prop where
  c : ∀ j, j < 7 → w.cell? ⟨r, q + j, none⟩ = x.cells[j]?
  f : ∀ k, w.frozen? ⟨r, k, none⟩ = false
section
variable {w : World} {g : Nat} {X : Nat → Prop} {v : Value} {rs : List Rt}
theorem at_lt {i : Nat} {x : Rt} (hx : rs[i]? = some x) : i < rs.length := by
  rcases Nat.lt_or_ge i rs.length with h1 | h1
  · exact h1
  · rw [List.getElem?_eq_none h1] at hx; cases hx
theorem Raw.vform (h : Raw w g X v rs) : ∃ A c, v = .slice A rs.length c := by
  rcases h.row.2 with ⟨hv, h0⟩ | ⟨r, c, cur, hv, _⟩
  · exact ⟨none, 0, by rw [hv, h0]⟩
  · exact ⟨_, _, hv⟩
theorem gate_no (h : Raw w g X v rs) (p : Int) (hp : p < 0 ∨ (rs.length : Int) ≤ p) :
    Calls Try.prog 15 #[ptr g, .int .i64 p] w fun e w' => e = .returned (.pointer none) ∧ w = w' := by
  obtain ⟨A, c, rfl⟩ := h.vform
  have c0 : w.cell? ⟨g, 0, none⟩ = some (.slice A rs.length c) := h.box.cell 0
  have hf := h.few
  clear h
  unfold ptr
  by_cases h1 : p < 0
  · clear hp
    go_enter Try.func15, Try.ntmps15
    go_wp2
    go_ret
    exact ⟨rfl, rfl⟩
  · have h2 : (rs.length : Int) ≤ p := by omega
    clear hp
    go_enter Try.func15, Try.ntmps15
    go_wp2
    go_ret
    exact ⟨rfl, rfl⟩
theorem gate_is (h : Raw w g X v rs) {i : Nat} {x : Rt} (hx : rs[i]? = some x) :
    Calls Try.prog 15 #[ptr g, .int .i64 (i : Int)] w fun e w' => ∃ r c, v = .slice (some ⟨r, 0, none⟩) rs.length c ∧ e = .returned (.pointer (some ⟨r, i * 7, none⟩)) ∧ w = w' := by
  have hi := at_lt hx
  obtain ⟨r, c, rfl, hc⟩ := h.live (by omega)
  have c0 : w.cell? ⟨g, 0, none⟩ = some (.slice (some ⟨r, 0, none⟩) rs.length c) := h.box.cell 0
  have hf := h.few
  clear h hx
  unfold ptr
  go_enter Try.func15, Try.ntmps15
  go_wp2
  go_ret
  exact ⟨r, c, rfl, by simp, rfl⟩
theorem Raw.cs {r c : Nat} (h : Raw w g X (.slice (some ⟨r, 0, none⟩) rs.length c) rs) {i : Nat} {x : Rt} (hx : rs[i]? = some x) : Cs w r (i * 7) x := ⟨fun j hj => h.cellr hx j hj, h.frozenr⟩
theorem Cs.c0 {r q : Nat} {x : Rt} (h : Cs w r q x) : w.cell? ⟨r, q, none⟩ = some (.pointer (some ⟨x.b, 0, none⟩)) := h.c 0 (by omega)
theorem Cs.c1 {r q : Nat} {x : Rt} (h : Cs w r q x) : w.cell? ⟨r, q + 1, none⟩ = some (.string x.t.p.nm) := h.c 1 (by omega)
theorem Cs.c2 {r q : Nat} {x : Rt} (h : Cs w r q x) : w.cell? ⟨r, q + 2, none⟩ = some (.int .i64 x.t.p.seats) := h.c 2 (by omega)
theorem Cs.c3 {r q : Nat} {x : Rt} (h : Cs w r q x) : w.cell? ⟨r, q + 3, none⟩ = some (.int .i64 x.t.p.trip) := h.c 3 (by omega)
theorem Cs.c4 {r q : Nat} {x : Rt} (h : Cs w r q x) : w.cell? ⟨r, q + 4, none⟩ = some (.int .i64 x.t.p.cool) := h.c 4 (by omega)
theorem Cs.c5 {r q : Nat} {x : Rt} (h : Cs w r q x) : w.cell? ⟨r, q + 5, none⟩ = some (.int .i64 x.t.p.probes) := h.c 5 (by omega)
theorem Cs.c6 {r q : Nat} {x : Rt} (h : Cs w r q x) : w.cell? ⟨r, q + 6, none⟩ = some (.int .i64 x.t.fl) := h.c 6 (by omega)
theorem ans_at {i : Nat} {x : Rt} (hx : rs[i]? = some x) (d : Int) (f : Gt → Int) : ans (rs.map Rt.t) (i : Int) d f = f x.t := by
  unfold ans
  rw [at_nat, List.getElem?_map, hx]
  rfl
theorem ans_no {p : Int} (hp : p < 0 ∨ (rs.length : Int) ≤ p) (d : Int) (f : Gt → Int) : ans (rs.map Rt.t) p d f = d := by
  unfold ans
  rw [at_none (by simpa using hp)]
/-- a place: one of the gates', or none -/
theorem place (p : Int) : (p < 0 ∨ (rs.length : Int) ≤ p) ∨ ∃ (i : Nat) (x : Rt), p = (i : Int) ∧ rs[i]? = some x := by
  by_cases h : p < 0 ∨ (rs.length : Int) ≤ p
  · exact .inl h
  · have hi : p.toNat < rs.length := by omega
    exact .inr ⟨p.toNat, rs[p.toNat], by omega, List.getElem?_eq_getElem hi⟩
theorem gate_at {r c : Nat} (h : Raw w g X (.slice (some ⟨r, 0, none⟩) rs.length c) rs) {i : Nat} {x : Rt} (hx : rs[i]? = some x) :
    Calls Try.prog 15 #[.pointer (some ⟨g, 0, none⟩), .int .i64 (i : Int)] w fun e w' => e = .returned (.pointer (some ⟨r, i * 7, none⟩)) ∧ w = w' := by
  refine (gate_is h hx).mono ?_
  rintro e w1 ⟨r1, c1, hv1, rfl, rfl⟩
  injection hv1 with hv1 _ _
  injection hv1 with hv1
  injection hv1 with hv1
  subst hv1
  exact ⟨rfl, rfl⟩
theorem Raw.at_ (h : Raw w g X v rs) {i : Nat} {x : Rt} (hx : rs[i]? = some x) : ∃ r c, v = .slice (some ⟨r, 0, none⟩) rs.length c ∧ rs.length ≤ c := h.live (by have := at_lt hx; omega)
set_option maxHeartbeats 400000 in
theorem flying_raw (h : Raw w g X v rs) (p : Int) : Calls Try.prog 12 #[ptr g, .int .i64 p] w fun e w' => e = .returned (.int .i64 (flyG (rs.map Rt.t) p)) ∧ w = w' := by
  rcases place (rs := rs) p with hp | ⟨i, x, rfl, hx⟩
  · have HG := Lib.hid (gate_no h p hp)
    have HA := Lib.hid (ans_no hp 0 Gt.fl)
    clear h hp
    unfold ptr at HG ⊢
    go_enter Try.func12, Try.ntmps12
    go_wp2_with (go_at_call 15; refine HG.out.mono ?_; rintro e w1 ⟨rfl, rfl⟩)
    go_ret
    exact ⟨ret_int HA.out.symm, rfl⟩
  · obtain ⟨r, c, rfl, hc⟩ := h.at_ hx
    have HG := Lib.hid (gate_at h hx)
    have hcs := h.cs hx
    have c6 := hcs.c6
    have HA := Lib.hid (ans_at hx 0 Gt.fl)
    clear h hx hcs
    unfold ptr
    generalize i * 7 = q at *
    go_enter Try.func12, Try.ntmps12
    go_wp2_with (go_at_call 15; refine HG.out.mono ?_; rintro e w1 ⟨rfl, rfl⟩)
    go_ret
    exact ⟨ret_int HA.out.symm, rfl⟩
set_option maxHeartbeats 400000 in
theorem state_raw (h : Raw w g X v rs) (p now : Int) : Calls Try.prog 8 #[ptr g, .int .i64 p, .int .i64 now] w fun e w' => e = .returned (.int .i64 (stateG (rs.map Rt.t) p now)) ∧ w = w' := by
  rcases place (rs := rs) p with hp | ⟨i, x, rfl, hx⟩
  · have HG := Lib.hid (gate_no h p hp)
    have HA := Lib.hid (ans_no hp 0 fun x => kind x.s now)
    clear h hp
    unfold ptr at HG ⊢
    go_enter Try.func8, Try.ntmps8
    go_wp2_with (go_at_call 15; refine HG.out.mono ?_; rintro e w1 ⟨rfl, rfl⟩)
    go_ret
    exact ⟨ret_int HA.out.symm, rfl⟩
  · obtain ⟨r, c, rfl, hc⟩ := h.at_ hx
    have HG := Lib.hid (gate_at h hx)
    have hcs := h.cs hx
    have c0 := hcs.c0
    have HA := Lib.hid (ans_at hx 0 fun x => kind x.s now)
    have HS := Lib.hid (Bk.state_any (h.brk x (List.mem_of_getElem? hx)) now)
    clear h hx hcs
    unfold ptr
    generalize i * 7 = q at *
    go_enter Try.func8, Try.ntmps8
    go_wp2_with (first
      | (go_at_call 15; refine HG.out.mono ?_; rintro e w1 ⟨rfl, rfl⟩)
      | (go_at_call 16; refine HS.out.mono ?_; rintro e w1 ⟨rfl, rfl⟩))
    go_ret
    exact ⟨ret_int HA.out.symm, rfl⟩
set_option maxHeartbeats 1000000 in
theorem may_raw (h : Raw w g X v rs) (p now : Int) : Calls Try.prog 13 #[ptr g, .int .i64 p, .int .i64 now] w fun e w' => e = .returned (.int .i64 (mayG (rs.map Rt.t) p now)) ∧ ∃ n, w' = w.drewN n := by
  rcases place (rs := rs) p with hp | ⟨i, x, rfl, hx⟩
  · have HG := Lib.hid (gate_no h p hp)
    have HA := Lib.hid (ans_no hp 7 fun x => mayE x now)
    clear h hp
    unfold ptr at HG ⊢
    go_enter Try.func13, Try.ntmps13
    go_wp2_with (go_at_call 15; refine HG.out.mono ?_; rintro e w1 ⟨rfl, rfl⟩)
    go_ret
    exact ⟨ret_int HA.out.symm, 0, rfl⟩
  · obtain ⟨r, c, rfl, hc⟩ := h.at_ hx
    have HG := Lib.hid (gate_at h hx)
    have hcs := h.cs hx
    have c0 := hcs.c0
    have c2 := hcs.c2
    have c6 := hcs.c6
    have hA := ans_at hx 7 fun x => mayE x now
    have HR := Lib.hid h
    have HX := Lib.hid hx
    clear h hx hcs
    unfold ptr
    generalize i * 7 = q at *
    by_cases hf : x.t.fl = x.t.p.seats
    · have HA : Hid (mayG (rs.map Rt.t) (i : Int) now = 8) := Lib.hid (by unfold mayG; rw [hA]; unfold mayE; rw [if_pos hf])
      have hb : (x.t.fl == x.t.p.seats) = true := by simpa using hf
      clear hA hf
      go_enter Try.func13, Try.ntmps13
      go_wp2_with (go_at_call 15; refine HG.out.mono ?_; rintro e w1 ⟨rfl, rfl⟩)
      go_quiet (fail)
      go_wp2
      go_ret
      exact ⟨ret_int HA.out.symm, _, rfl⟩
    · have hb : (x.t.fl == x.t.p.seats) = false := by simpa using hf
      have HM : Hid (∀ n, Calls Try.prog 21 #[.pointer (some ⟨x.b, 0, none⟩), .int .i64 now] (w.drewN n) fun e w' => e = .returned (.bool (Bk.may x.t.s now)) ∧ ∃ m, w' = w.drewN m) := Lib.hid fun n => by
        refine (Bk.may_any ((HR.out.drewN n).brk x (List.mem_of_getElem? HX.out)) now).mono ?_
        rintro e w' ⟨rfl, m, rfl⟩
        exact ⟨rfl, n + m, by rw [World.drewN_drewN]⟩
      have hA' : mayG (rs.map Rt.t) (i : Int) now = if Bk.may x.t.s now then 0 else 16 := by unfold mayG; rw [hA]; unfold mayE; rw [if_neg hf]
      clear hA hf
      rw [hA']
      clear hA'
      generalize Bk.may x.t.s now = mb at HM ⊢
      cases mb
      all_goals
        go_enter Try.func13, Try.ntmps13
        go_wp2_with (go_at_call 15; refine HG.out.mono ?_; rintro e w1 ⟨rfl, rfl⟩)
        go_quiet (fail)
        go_wp2_with (go_at_call 21; refine (HM.out _).mono ?_; rintro e w1 ⟨rfl, m, hw1⟩)
        go_ret
        exact ⟨rfl, m, rfl⟩
theorem may_is (h : Raw w g X v rs) (p now : Int) {e : Int} (he : mayG (rs.map Rt.t) p now = e) : Calls Try.prog 13 #[ptr g, .int .i64 p, .int .i64 now] w fun E w' => E = .returned (.int .i64 e) ∧ ∃ n, w' = w.drewN n := he ▸ may_raw h p now
end
end Go.Proofs.Ytapnnlebokcmgaa.Gd
