/-
  The statement ReadyFallsSaid: for every input the law function ReadyFalls returns true (takes without puts come by falling weights, of like ones by rising handles), and the arguments read afterwards as before.
  Conditions: none beyond the statement's own.
-/
import Derived.Test.YtkfkjpabollaoaaRdyArg
import Derived.WalkKit
import Derived.Deep.RegionHeld
namespace Go.Proofs.Ytkfkjpabollaoaa.readyFalls
open Go.ChangeShapes Go.WideShapes Go.ChangeAt Go.RowKit

def entF (f : Nat → Nat → Int) (m k : Nat) : E := ⟨k + 1, (k : Int), wtOf (f k 0 % 256) m (f k 1)⟩
def stF (f : Nat → Nat → Int) (m i : Nat) : Qs := ⟨40, m, i, (List.range i).map (entF f m)⟩
theorem stF_put (f : Nat → Nat → Int) (m i : Nat) : (stF f m i).put (i : Int) (f i 0 % 256) (f i 1) = stF f m (i + 1) := by
  unfold stF Qs.put
  simp only [List.range_succ, List.map_append, List.map_cons, List.map_nil]
  rfl
theorem first_uni {s : Qs} (h : s.Ok) {x y : E} (hx : FirstOf s.xs x) (hy : FirstOf s.xs y) : y = x := by
  have h1 := hx.2 y hy.1
  have h2 := hy.2 x hx.1
  have hh : x.h = y.h := by unfold befE at h1 h2; omega
  have nd : (s.xs.map E.h).Nodup := by
    rw [List.Nodup, List.pairwise_map]
    exact h.rise.imp fun h => by omega
  obtain ⟨i, hi, e1⟩ := List.mem_iff_getElem.1 hx.1
  obtain ⟨j, hj, e2⟩ := List.mem_iff_getElem.1 hy.1
  have hij : i = j := by
    have := (List.getElem_inj (h₀ := by simpa using hi) (h₁ := by simpa using hj) nd).1 (by simp [e1, e2, hh])
    exact this
  subst hij
  rw [← e1, ← e2]
/-- what is left behind k takes: fewer, and none of it ahead of what was taken last -/
structure Left (n k : Nat) (pw : Int) (ph : Nat) (s : Qs) : Prop where
  last : s.last ≤ 40
  len : s.xs.length + k = n
  ids : ∀ x ∈ s.xs, x.id = (x.h : Int) - 1
  fall : 0 < k → ∀ x ∈ s.xs, x.wt < pw ∨ (x.wt = pw ∧ ph < x.h)
theorem Left.start (f : Nat → Nat → Int) (m n : Nat) (hn : n ≤ 40) : Left n 0 0 0 (stF f m n) := by
  refine ⟨hn, by simp [stF], fun x hx => ?_, fun h => absurd h (by omega)⟩
  obtain ⟨k, _, rfl⟩ := List.mem_map.1 hx
  simp [entF]
theorem filter_one {xs : List E} {x : E} (hx : x ∈ xs) (hr : xs.Pairwise fun x y => x.h < y.h) : (xs.filter fun y => decide (y.h ≠ x.h)).length + 1 = xs.length := by
  induction xs with
  | nil => cases hx
  | cons a r ih =>
    rw [List.pairwise_cons] at hr
    rcases List.mem_cons.1 hx with rfl | h1
    · rw [List.filter_cons_of_neg (by simp), List.filter_eq_self.2 (fun y hy => decide_eq_true (by have := hr.1 y hy; omega))]
      rfl
    · have := hr.1 x h1
      rw [List.filter_cons_of_pos (by simp; omega), List.length_cons, List.length_cons, ih h1 hr.2]
theorem Left.next {n k : Nat} {pw : Int} {ph : Nat} {s : Qs} (h : Left n k pw ph s) (ok : s.Ok) {x : E} (hx : FirstOf s.xs x) : Left n (k + 1) x.wt x.h (s.drop x.h) := by
  refine ⟨h.last, ?_, fun y hy => h.ids y (List.mem_filter.1 hy).1, fun _ y hy => ?_⟩
  · have := filter_one hx.1 ok.rise
    have := h.len
    show (s.xs.filter _).length + (k + 1) = n
    omega
  · obtain ⟨h1, h2⟩ := List.mem_filter.1 hy
    have h3 := hx.2 y h1
    have h4 := of_decide_eq_true h2
    unfold befE at h3
    omega
section
variable {w : World} {g : Nat} {X : Nat → Prop} {s : Qs}
theorem take_is (h : Que w g X s) (x : E) (hx : FirstOf s.xs x) (hl : s.last < 4611686018427387905) :
    Calls Try.prog 10 #[ptr g] w fun e w' => e = .returned (.tuple #[.int .i64 x.id, .int .i64 (x.h : Int), .bool true]) ∧ Que w' g X (s.drop x.h) ∧ Keep X w w' :=
  (take_some h (fun e => by have := hx.1; rw [e] at this; cases this) hl).mono fun e w' ⟨y, hy, he, hq, hk⟩ => by
    rw [first_uni h.ok hx hy] at he hq
    exact ⟨he, hq, hk⟩
theorem has_first (h : Que w g X s) (hx : s.xs ≠ []) : ∃ x, FirstOf s.xs x := by
  obtain ⟨bm, v, d, ms, hH⟩ := h
  exact ⟨_, (hH.first hx).2⟩
end
set_option maxHeartbeats 4000000 in
set_option maxRecDepth 100000 in
theorem walk (a0 : Int) (A : Option Addr) (n c : Nat) (f : Nat → Nat → Int) (h0 : 0 ≤ a0 ∧ a0 ≤ 65535) (w : World) (hn : n ≤ 9223372036854775807) (hf : ∀ i, i < n → IntsAt w w.heap.size A .u16 2 i (f i)) :
    Calls Try.prog 5 #[.int .u16 a0, .slice A n c] w fun e w' => e = .returned (.bool true) ∧ Below w.heap.size w w' := by
  obtain ⟨x0, y0⟩ := h0
  by_cases h40 : 40 < n
  · clear hf
    go_enter Try.func5, Try.ntmps5
    go_wp2_with (go_at_call 6; (with_reducible refine (awake_any _).mono ?_); rintro e w0 ⟨rfl, hb0⟩)
    go_ret
    exact ⟨rfl, hb0⟩
  · obtain ⟨m, hm⟩ : ∃ m : Nat, (m : Int) = 1 + a0 := ⟨(1 + a0).toNat, by omega⟩
    have hN : ∀ w, Calls Try.prog 7 #[.int .i64 40, .int .i64 (1 + a0)] w fun e w' => e = .returned (.pointer (some ⟨w.heap.size + 1, 0, none⟩)) ∧ Que w' (w.heap.size + 1) (fun i => i < w.heap.size) (stF f m 0) ∧ Below w.heap.size w w' := fun w => by
      have h := new_any 40 m w (by omega) (by omega) (by omega) (by omega)
      rw [hm] at h
      exact h
    have HN := Lib.hid hN
    have HF := Lib.hid hf
    clear hN hm hf
    go_enter Try.func5, Try.ntmps5
    go_wp2_with (first
      | (go_at_call 6; (with_reducible refine (awake_any _).mono ?_); rintro e w0 ⟨rfl, hb0⟩)
      | (go_at_call 7; (with_reducible refine (HN.out _).mono ?_); rintro e w1 ⟨rfl, hq1, hb1⟩; have Hq1 := Lib.hid hq1; clear hq1))
    have hbw : Below w.heap.size w w1 := hb0.trans (hb1.mono hb0.size)
    obtain ⟨g, hg⟩ : ∃ g, g = w0.heap.size + 1 := ⟨_, rfl⟩
    rw [← hg] at Hq1 ⊢
    clear hg
    have hX : ∀ i, i < w.heap.size → i < w0.heap.size := fun i hi => by have := hb0.size; omega
    have hs0 := hb0.size
    have hs1 := hb1.size
    obtain ⟨X, hXe⟩ : ∃ X : Nat → Prop, X = fun i => i < w0.heap.size := ⟨_, rfl⟩
    rw [← hXe] at Hq1
    have HX := Lib.hid (show ∀ i, i < w.heap.size → X i from fun i hi => by rw [hXe]; exact hX i hi)
    clear hX hXe hb0 hb1
    -- the puts
    go_loopw [6] (fun vi wr => ∃ k : Nat, vi = .int .i64 (k : Int) ∧ k ≤ n ∧ Hid (Que wr g X (stF f m k) ∧ Keep X w1 wr)) (fun vi _ => n - (intOf vi).toNat)
    case atStart => exact ⟨0, rfl, Nat.zero_le _, Lib.hid ⟨Hq1.out, Keep.refl _ _⟩⟩
    case round =>
      obtain ⟨k, rfl, hk, HI⟩ := hrel
      by_cases hlt : k < n
      · have hat := HF.out k hlt
        obtain ⟨b, o, rfl⟩ : ∃ b o, A = some ⟨b, o, none⟩ := by obtain ⟨b, o, e, _⟩ := hat; exact ⟨b, o, e⟩
        have hbl : Below w.heap.size w wr := hbw.trans (HI.out.2.below (by omega) HX.out)
        have C0 := fun u (hu : Below w.heap.size w u) => (hat.below hu).get 0 (by omega)
        have C1 := fun u (hu : Below w.heap.size w u) => (hat.below hu).get 1 (by omega)
        simp only [Nat.add_zero] at C0
        obtain ⟨u0, v0⟩ : 0 ≤ f k 0 ∧ f k 0 ≤ 65535 := fits (hat.wf 0 (by omega)) rfl rfl
        obtain ⟨u1, v1⟩ : 0 ≤ f k 1 ∧ f k 1 ≤ 65535 := fits (hat.wf 1 (by omega)) rfl rfl
        have hp := put_ok (w := wr.drew) (HI.out.1.drewN 1) (id := (k : Int)) (prio := f k 0 % 256) (now := f k 1) (by unfold argB goodB; simp; omega) (by simp [stF]; omega) (by simp [stF]; omega)
        rw [stF_put] at hp
        have hp' : Calls Try.prog 8 #[.pointer (some ⟨g, 0, none⟩), .int .i64 (k : Int), .int .i64 (f k 0 % 256), .int .i64 (f k 1)] wr.drew fun e w' => e = .returned (.tuple #[.int .i64 ((k : Int) + 1), .int .i64 0]) ∧ Que w' g X (stF f m (k + 1)) ∧ Keep X wr.drew w' := hp
        have HP := Lib.hid hp'
        generalize f k 0 = p0 at C0 u0 v0 HP
        generalize f k 1 = p1 at C1 u1 v1 HP
        have HBD := Lib.hid (show Below w.heap.size w wr.drew from ⟨hbl.os, hbl.tape, hbl.output, hbl.size, hbl.block⟩)
        have HB2 := Lib.hid (show ∀ w2, Keep X wr.drew w2 → Below w.heap.size w w2 from fun w2 hk => HBD.out.trans (hk.below hbl.size HX.out))
        clear hp hp' hat hbl
        go_wp2_with fail
        have t0 : IntKind.i64.wrap p0 = p0 := IntWalk.i64_in _ (by omega)
        have t1 : IntKind.i64.wrap p1 = p1 := IntWalk.i64_in _ (by omega)
        have t2 : p0.tmod 256 = p0 % 256 := Int.tmod_eq_emod_of_nonneg u0
        refine wp_region_held_drew (S := fun u => Below w.heap.size w u) (by kernel_rfl) (HBD.out) (fun hHeld => ?_)
        refine wpAnyH_take (i := 0) (oi := ⟨some 38, _, _, _, _, _⟩) (v := ?_) rfl (by kernel_rfl) (by kernel_rfl) (by kernel_rfl) (fun _ _ _ h => h) (Or.inl ⟨by rfl, ?_⟩) (by assumption) ?_
        rotate_left
        · (intro u hu; (try dsimp only at hu); go_simp; (try with_reducible rfl))
        (try simp only [Act.put, List.setIfInBounds_toArray, List.set_cons_zero, List.set_cons_succ])
        refine wpAnyH_take (i := 1) (oi := ⟨some 39, _, _, _, _, _⟩) (v := ?_) rfl (by kernel_rfl) (by kernel_rfl) (by kernel_rfl) (fun _ _ _ h => h) (Or.inl ⟨by rfl, ?_⟩) (by assumption) ?_
        rotate_left
        · (intro u hu; (try dsimp only at hu); go_simp; (try with_reducible rfl))
        (try simp only [Act.put, List.setIfInBounds_toArray, List.set_cons_zero, List.set_cons_succ])
        refine wpAnyH_take (i := 2) (oi := ⟨some 40, _, _, _, _, _⟩) (v := ?_) rfl (by kernel_rfl) (by kernel_rfl) (by kernel_rfl) (fun _ _ _ h => h) (Or.inl ⟨by rfl, ?_⟩) (by assumption) ?_
        rotate_left
        · (intro u hu; (try dsimp only at hu); go_simp; (try with_reducible rfl))
        (try simp only [Act.put, List.setIfInBounds_toArray, List.set_cons_zero, List.set_cons_succ])
        refine wpAnyH_take (i := 3) (oi := ⟨some 41, _, _, _, _, _⟩) (v := ?_) rfl (by kernel_rfl) (by kernel_rfl) (by kernel_rfl) (fun _ _ _ h => h) (Or.inl ⟨by rfl, ?_⟩) (by assumption) ?_
        rotate_left
        · (intro u hu; (try dsimp only at hu); go_simp; (try with_reducible rfl))
        (try simp only [Act.put, List.setIfInBounds_toArray, List.set_cons_zero, List.set_cons_succ])
        refine wpAnyH_take (i := 4) (oi := ⟨some 42, _, _, _, _, _⟩) (v := ?_) rfl (by kernel_rfl) (by kernel_rfl) (by kernel_rfl) (fun _ _ _ h => h) (Or.inl ⟨by rfl, ?_⟩) (by assumption) ?_
        rotate_left
        · (intro u hu; (try dsimp only at hu); go_simp; (try with_reducible rfl))
        (try simp only [Act.put, List.setIfInBounds_toArray, List.set_cons_zero, List.set_cons_succ])
        refine wpAnyH_take (i := 5) (oi := ⟨some 43, _, _, _, _, _⟩) (v := ?_) rfl (by kernel_rfl) (by kernel_rfl) (by kernel_rfl) (fun _ _ _ h => h) (Or.inl ⟨by rfl, ?_⟩) (by assumption) ?_
        rotate_left
        · (intro u hu; (try dsimp only at hu); go_simp; (try with_reducible rfl))
        (try simp only [Act.put, List.setIfInBounds_toArray, List.set_cons_zero, List.set_cons_succ])
        refine wpAnyH_take (i := 6) (oi := ⟨some 44, _, _, _, _, _⟩) (v := ?_) rfl (by kernel_rfl) (by kernel_rfl) (by kernel_rfl) (fun _ _ _ h => h) (Or.inl ⟨by rfl, ?_⟩) (by assumption) ?_
        rotate_left
        · (intro u hu; (try dsimp only at hu); go_simp; (try with_reducible rfl))
        (try simp only [Act.put, List.setIfInBounds_toArray, List.set_cons_zero, List.set_cons_succ])
        refine wpAnyH_take (i := 7) (oi := ⟨some 45, _, _, _, _, _⟩) (v := ?_) rfl (by kernel_rfl) (by kernel_rfl) (by kernel_rfl) (fun _ _ _ h => h) (Or.inl ⟨by rfl, ?_⟩) (by assumption) ?_
        rotate_left
        · (intro u hu; (try dsimp only at hu); go_simp; (try with_reducible rfl))
        (try simp only [Act.put, List.setIfInBounds_toArray, List.set_cons_zero, List.set_cons_succ])
        refine wpAnyH_take (i := 8) (oi := ⟨some 46, _, _, _, _, _⟩) (v := ?_) rfl (by kernel_rfl) (by kernel_rfl) (by kernel_rfl) (fun _ _ _ h => h) (Or.inl ⟨by rfl, ?_⟩) (by assumption) ?_
        rotate_left
        · (intro u hu; (try dsimp only at hu); go_simp; (try with_reducible rfl))
        (try simp only [Act.put, List.setIfInBounds_toArray, List.set_cons_zero, List.set_cons_succ])
        refine wpAnyH_take (i := 9) (oi := ⟨some 47, _, _, _, _, _⟩) (v := ?_) rfl (by kernel_rfl) (by kernel_rfl) (by kernel_rfl) (fun _ _ _ h => h) (Or.inl ⟨by rfl, ?_⟩) (by assumption) ?_
        rotate_left
        · (intro u hu; (try dsimp only at hu); go_simp; (try with_reducible rfl))
        (try simp only [Act.put, List.setIfInBounds_toArray, List.set_cons_zero, List.set_cons_succ])
        refine wpAnyH_take (i := 10) (oi := ⟨some 48, _, _, _, _, _⟩) (v := ?_) rfl (by kernel_rfl) (by kernel_rfl) (by kernel_rfl) (fun _ _ _ h => h) (Or.inl ⟨by rfl, ?_⟩) (by assumption) ?_
        rotate_left
        · (intro u hu; (try dsimp only at hu); go_simp; (try with_reducible rfl))
        (try simp only [Act.put, List.setIfInBounds_toArray, List.set_cons_zero, List.set_cons_succ])
        refine wpAnyH_take (i := 11) (oi := ⟨some 49, _, _, _, _, _⟩) (v := ?_) rfl (by kernel_rfl) (by kernel_rfl) (by kernel_rfl) (fun _ _ _ h => h) (Or.inl ⟨by rfl, ?_⟩) (by assumption) ?_
        rotate_left
        · (intro u hu; (try dsimp only at hu); go_simp; (try with_reducible rfl))
        (try simp only [Act.put, List.setIfInBounds_toArray, List.set_cons_zero, List.set_cons_succ])
        refine wpAnyH_take (i := 12) (oi := ⟨some 50, _, _, _, _, _⟩) (v := ?_) rfl (by kernel_rfl) (by kernel_rfl) (by kernel_rfl) (fun _ _ _ h => h) (Or.inl ⟨by rfl, ?_⟩) (by assumption) ?_
        rotate_left
        · (intro u hu; (try dsimp only at hu); go_simp; (try with_reducible rfl))
        (try simp only [Act.put, List.setIfInBounds_toArray, List.set_cons_zero, List.set_cons_succ])
        refine wpAnyH_take (i := 13) (oi := ⟨some 51, _, _, _, _, _⟩) (v := ?_) rfl (by kernel_rfl) (by kernel_rfl) (by kernel_rfl) (fun _ _ _ h => h) (Or.inl ⟨by rfl, ?_⟩) (by assumption) ?_
        rotate_left
        · (intro u hu; (try dsimp only at hu); go_simp; (try with_reducible rfl))
        (try simp only [Act.put, List.setIfInBounds_toArray, List.set_cons_zero, List.set_cons_succ])
        refine wpAnyH_take (i := 14) (oi := ⟨some 52, _, _, _, _, _⟩) (v := ?_) rfl (by kernel_rfl) (by kernel_rfl) (by kernel_rfl) (fun _ _ _ h => h) (Or.inl ⟨by rfl, ?_⟩) (by assumption) ?_
        rotate_left
        · (intro u hu; (try dsimp only at hu); go_simp; (try with_reducible rfl))
        (try simp only [Act.put, List.setIfInBounds_toArray, List.set_cons_zero, List.set_cons_succ])
        refine wpAnyH_ready (rs := [15]) (by kernel_rfl) (by simp) ?_
        refine AllReadyH.cons (o := ⟨some 53, _, _, _, _, _⟩) rfl (fun K hK => ?_) AllReadyH.nil
        go_simp
        (with_reducible refine HP.out.mono ?_)
        rintro e w2 ⟨rfl, hq2, hk2⟩
        go_wp2_with fail
        refine hK.out _ _ ?_ (fun hHeld => ?_)
        · exact HB2.out w2 hk2
        clear hK K
        (try simp only [Act.put, List.setIfInBounds_toArray, List.set_cons_zero, List.set_cons_succ])
        have HQ2 := Lib.hid hq2
        clear hq2
        refine wpAnyH_take (i := 16) (oi := ⟨some 37, _, _, _, _, _⟩) (v := ?_) rfl (by kernel_rfl) (by kernel_rfl) (by kernel_rfl) (fun _ _ _ h => h) (Or.inl ⟨by rfl, ?_⟩) (by assumption) ?_
        rotate_left
        · (intro u hu; (try dsimp only at hu); go_simp; (try with_reducible rfl))
        (try simp only [Act.put, List.setIfInBounds_toArray, List.set_cons_zero, List.set_cons_succ])
        refine wpAnyH_take (i := 17) (oi := ⟨some 54, _, _, _, _, _⟩) (v := ?_) rfl (by kernel_rfl) (by kernel_rfl) (by kernel_rfl) (fun _ _ _ h => h) (Or.inl ⟨by rfl, ?_⟩) (by assumption) ?_
        rotate_left
        · (intro u hu; (try dsimp only at hu); go_simp; (try with_reducible rfl))
        (try simp only [Act.put, List.setIfInBounds_toArray, List.set_cons_zero, List.set_cons_succ])
        refine wpAnyH_take (i := 18) (oi := ⟨some 55, _, _, _, _, _⟩) (v := ?_) rfl (by kernel_rfl) (by kernel_rfl) (by kernel_rfl) (fun _ _ _ h => h) (Or.inl ⟨by rfl, ?_⟩) (by assumption) ?_
        rotate_left
        · (intro u hu; (try dsimp only at hu); go_simp; (try with_reducible rfl))
        (try simp only [Act.put, List.setIfInBounds_toArray, List.set_cons_zero, List.set_cons_succ])
        refine wpAnyH_take (i := 19) (oi := ⟨some 7, _, _, _, _, _⟩) (v := ?_) rfl (by kernel_rfl) (by kernel_rfl) (by kernel_rfl) (fun _ _ _ h => h) (Or.inl ⟨by rfl, ?_⟩) (by assumption) ?_
        rotate_left
        · (intro u hu; (try dsimp only at hu); go_simp; (try with_reducible rfl))
        (try simp only [Act.put, List.setIfInBounds_toArray, List.set_cons_zero, List.set_cons_succ])
        refine wpAnyH_take (i := 20) (oi := ⟨some 8, _, _, _, _, _⟩) (v := ?_) rfl (by kernel_rfl) (by kernel_rfl) (by kernel_rfl) (fun _ _ _ h => h) (Or.inl ⟨by rfl, ?_⟩) (by assumption) ?_
        rotate_left
        · (intro u hu; (try dsimp only at hu); go_simp; (try with_reducible rfl))
        (try simp only [Act.put, List.setIfInBounds_toArray, List.set_cons_zero, List.set_cons_succ])
        refine wpAnyH_done (by kernel_rfl) ?_ _
        clear t0 t1 t2 C0 C1
        go_wp2_with fail
        go_roundw
        case rel => exact ⟨k + 1, by go_num, by omega, Lib.hid ⟨HQ2.out, HI.out.2.trans ⟨hk2.os, hk2.tape, hk2.output, hk2.size, hk2.block⟩⟩⟩
        case measure => simp [intOf]; omega
      · obtain rfl : n = k := by omega
        go_wp2_with fail
        -- the takes
        go_loopw [9, 10, 11] (fun vw vl vi wq => ∃ (k : Nat) (pw : Int) (ph : Nat) (s : Qs), vw = .int .i64 pw ∧ vl = .int .i64 (ph : Int) ∧ vi = .int .i64 (k : Int) ∧ k ≤ n ∧ Hid (Que wq g X s ∧ Keep X w1 wq ∧ Left n k pw ph s)) (fun _ _ vi _ => n - (intOf vi).toNat)
        case atStart => exact ⟨0, 0, 0, stF f m n, rfl, rfl, rfl, Nat.zero_le _, Lib.hid ⟨HI.out.1, HI.out.2, Left.start f m n (by omega)⟩⟩
        case round =>
          clear HI hk HF
          obtain ⟨k, pw, ph, s, rfl, rfl, rfl, hk, HI⟩ := hrel
          obtain ⟨hq, hkp, hl⟩ := HI.out
          have hlast := hl.last
          have hlen := hl.len
          by_cases hlt : k < n
          · obtain ⟨x, hx⟩ := has_first hq (fun e => by rw [e] at hlen; simp at hlen; omega)
            have hF := first_is hq x (fun y hy => first_uni hq.ok hx hy) (fun e => by rw [e] at hlen; simp at hlen; omega)
            have hW := fun n => weight_yes (hq.drewN n) hx.1 (by omega)
            have hT := fun n => take_is (hq.drewN n) x hx (by omega)
            have hid := hl.ids x hx.1
            have hpx := hq.ok.pos x hx.1
            have z1 : (1 : Int) ≤ (x.h : Int) := by omega
            have z2 : (x.h : Int) ≤ 40 := by omega
            have b1 : (x.id != (x.h : Int) - 1) = false := by rw [hid]; simp
            have hfall := hl.fall
            have hnext := hl.next hq.ok hx
            have HFF := Lib.hid hF
            have HW := Lib.hid hW
            have HT := Lib.hid hT
            have HNX := Lib.hid hnext
            have HKP := Lib.hid hkp
            have hfx : 0 < k → x.wt < pw ∨ (x.wt = pw ∧ ph < x.h) := fun h => hfall h x hx.1
            have HFX := Lib.hid hfx
            unfold ptr at HFF HW HT
            clear hpx hF hW hT hid hfall hnext hkp hq hl hx hfx HI hlast hlen
            by_cases hk0 : 0 < k
            · rcases HFX.out hk0 with h1 | ⟨h1, h2⟩
              · have b2 : (x.wt == pw) = false := by rw [beq_eq_false_iff_ne]; omega
                have b3 : ¬ pw < x.wt := by omega
                go_wp2_with (first
                  | (go_at_call 18; (with_reducible refine HFF.out.mono ?_); rintro e w3 ⟨rfl, q, rfl⟩)
                  | (go_at_call 13; (with_reducible refine (HW.out q).mono ?_); rintro e w4 ⟨rfl, rfl⟩)
                  | (go_at_call 10; (with_reducible refine (HT.out q).mono ?_); rintro e w5 ⟨rfl, hq5, hk5⟩; have HQ5 := Lib.hid hq5; clear hq5))
                go_roundw
                case rel => exact ⟨k + 1, _, _, _, rfl, rfl, by go_num, by omega, Lib.hid ⟨HQ5.out, HKP.out.trans ⟨hk5.os, hk5.tape, hk5.output, hk5.size, hk5.block⟩, HNX.out⟩⟩
                case measure => simp [intOf]; omega
              · have b2 : (x.wt == pw) = true := by rw [beq_iff_eq]; exact h1
                have b3 : ¬ pw < x.wt := by omega
                have b4 : ¬ x.h ≤ ph := by omega
                have HE := Lib.hid h1
                clear h1
                go_wp2_with (first
                  | (go_at_call 18; (with_reducible refine HFF.out.mono ?_); rintro e w3 ⟨rfl, q, rfl⟩)
                  | (go_at_call 13; (with_reducible refine (HW.out q).mono ?_); rintro e w4 ⟨rfl, rfl⟩)
                  | (go_at_call 10; (with_reducible refine (HT.out q).mono ?_); rintro e w5 ⟨rfl, hq5, hk5⟩; have HQ5 := Lib.hid hq5; clear hq5))
                go_roundw
                case rel => exact ⟨k + 1, _, _, _, rfl, rfl, by go_num, by omega, Lib.hid ⟨HQ5.out, HKP.out.trans ⟨hk5.os, hk5.tape, hk5.output, hk5.size, hk5.block⟩, HNX.out⟩⟩
                case measure => simp [intOf]; omega
            · go_wp2_with (first
                | (go_at_call 18; (with_reducible refine HFF.out.mono ?_); rintro e w3 ⟨rfl, q, rfl⟩)
                | (go_at_call 13; (with_reducible refine (HW.out q).mono ?_); rintro e w4 ⟨rfl, rfl⟩)
                | (go_at_call 10; (with_reducible refine (HT.out q).mono ?_); rintro e w5 ⟨rfl, hq5, hk5⟩; have HQ5 := Lib.hid hq5; clear hq5))
              go_roundw
              case rel => exact ⟨k + 1, _, _, _, rfl, rfl, by go_num, by omega, Lib.hid ⟨HQ5.out, HKP.out.trans ⟨hk5.os, hk5.tape, hk5.output, hk5.size, hk5.block⟩, HNX.out⟩⟩
              case measure => simp [intOf]; omega
          · have hz : s.xs.length = 0 := by omega
            have hL := len_any hq
            rw [hz] at hL
            have HL := Lib.hid hL
            have HKP := Lib.hid hkp
            unfold ptr at HL
            clear hL hq hl HI hkp hlen
            go_wp2_with (go_at_call 17; (with_reducible refine HL.out.mono ?_); rintro e w3 ⟨rfl, rfl⟩)
            go_ret
            exact ⟨rfl, hbw.trans (HKP.out.below (by omega) HX.out)⟩

set_option maxRecDepth 100000 in
theorem lifted (os : Os) (started : os.Started) (H : Type) (enc : TypeId × Value → H) :
    ReturnsInHanded {} Try.checked os 5 .any (Rows.readyFallsSpec.pre6 enc Try.prog Try.f5 Rows.readyFallsRow.domain false) (Rows.readyFallsSpec.post enc Try.prog Try.f5 false true false false) := by
  refine returnsInHanded_of_change_sized (C := Try.checked) own started (by kernel_rfl) Try.func5
    (ChangeSpec.witness6 (enc := enc) (C := Try.checked) false ⟨#[], #[.int .u16 0, .slice none 0 0], []⟩ 8 (by kernel_rfl) (by kernel_rfl) (by kernel_rfl) (by kernel_rfl)) ?_
  intro W base args ds gs before hval0 hW _ _ _
  have hval : ∀ (j : Nat) t v, Try.f5.params[j]? = some t → args[j]? = some v → Value.okWide Try.prog W .any base t v := hval0
  have hW' := hW
  obtain ⟨p, q, hA0, hV, rfl, _, _⟩ := hW
  have hA : DataW.TrodAll enc Try.prog W 0 (fun _ => true) true Try.f5.params.toList args.toList ds p := hA0
  rw [Try.params5] at hA hval
  obtain ⟨rfl, rfl⟩ := trodVars_none hV
  obtain ⟨v0, vs0, d0, ds0, p0, q0, hargs, rfl, rfl, h0, r0⟩ := trodAll_cons hA
  obtain ⟨v1, vs1, d1, ds1, p1, q1, rfl, rfl, rfl, h1, r1⟩ := trodAll_cons r0
  obtain ⟨rfl, rfl, rfl⟩ := trodAll_nil r1
  obtain rfl : args = #[v0, v1] := by cases args; simp_all
  obtain ⟨a0, rfl, rfl, rfl, w0⟩ := open_int Try.underlying47 (hval 0 47 v0 rfl rfl) h0
  obtain ⟨a1, len1, cap1, rfl⟩ := okWide_slice Try.underlying50 (hval 1 50 v1 rfl rfl)
  clear hA0 hval0
  simp only [List.append_nil] at hW'
  have hlt1 : ∀ x ∈ p1, x.block < W.heap.size := fun x hx => by simpa using hW'.lt x (by simp [hx])
  obtain ⟨f, hc1, hm1, hf⟩ := arg_pairs h1
  refine (walk a0 a1 len1 cap1 f (fits w0 rfl rfl) W hm1 hf).mono fun e W' ⟨he, bel⟩ => ?_
  subst he
  exact ⟨_, rfl, _, _, _, [], _, [], hW', trodAll_mk1 (shut_bool Try.underlying4 _), (trodAll_cons_mk (shut_int Try.underlying47 w0) (trodAll_cons_mk (Below.trod laidOut (by kernel_rfl) (of_decide_eq_true (by kernel_rfl)) h1 bel hlt1) trodAll_mk0)), rfl, bel.frame _, fun h => by cases h⟩

/-- the statement -/
theorem proved : Rows.ReadyFallsSaid :=
  OpenClaim.holds_of_wide 5 Try.f5 rfl rfl rfl rfl rfl rfl rfl ⟨rfl, rfl, rfl, rfl, rfl⟩ rfl rfl rfl rfl rfl (by kernel_rfl) Try.func5 (by kernel_rfl)
    (of_decide_eq_true (by kernel_rfl)) (by unfold Func.isWrapper; first | (rw [if_pos (by decide +kernel)]; kernel_rfl) | (rw [if_neg (by decide +kernel)]; exact ⟨rfl, rfl⟩))
    (fun os started H enc _ => lifted os started H enc)
#print axioms proved
end Go.Proofs.Ytkfkjpabollaoaa.readyFalls
