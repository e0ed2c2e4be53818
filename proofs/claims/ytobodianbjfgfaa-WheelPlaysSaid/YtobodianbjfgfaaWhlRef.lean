/-
  The document's rows of timers: cells, an append of them, and what its Without leaves.
  Conditions: at most 300 timers.
-/
import Derived.Test.YtobodianbjfgfaaWhlTk
import Derived.IntWalk
import Derived.Deep.RegionHeld3
namespace Go.Proofs.Ytobodianbjfgfaa.Wh
open Go.RowKit

theorem cellsT_cons (f : T) (fs : List T) : cellsT (f :: fs) = T.cells f ++ cellsT fs := rfl
theorem cellsT_at : ∀ (fs : List T) (k j : Nat) (h : k < fs.length), j < 3 → (cellsT fs)[k * 3 + j]? = (T.cells fs[k])[j]?
  | f :: fs, 0, j, _, hj => by
    rw [cellsT_cons, List.getElem?_append_left (by simp [T.cells]; omega)]
    simp
  | f :: fs, k + 1, j, h, hj => by
    have e : (k + 1) * 3 + j = (T.cells f).length + (k * 3 + j) := by simp [T.cells]; omega
    rw [cellsT_cons, e, List.getElem?_append_right (by omega), Nat.add_sub_cancel_left, cellsT_at fs k j (by simpa using h) hj]
    rfl
theorem cellsT_one (l : List T) : ∀ u ∈ cellsT l, u.oneCell' = true := fun u hu => by
  obtain ⟨t, _, ht⟩ := List.mem_flatMap.1 hu
  simp only [T.cells, List.mem_cons, List.not_mem_nil, or_false] at ht
  rcases ht with rfl | rfl | rfl <;> rfl
theorem cellsT_take (fs : List T) (k : Nat) : cellsT (fs.take k) = (cellsT fs).take (k * 3) := by
  induction fs generalizing k with
  | nil => simp [cellsT]
  | cons f fs ih =>
    cases k with
    | zero => simp [cellsT]
    | succ k =>
      have e : (k + 1) * 3 = (T.cells f).length + k * 3 := by simp [T.cells]; omega
      rw [List.take_succ_cons, cellsT_cons, cellsT_cons, ih, e, List.take_length_add_append]
theorem cellsT_drop (fs : List T) (k : Nat) : cellsT (fs.drop k) = (cellsT fs).drop (k * 3) := by
  induction fs generalizing k with
  | nil => simp [cellsT]
  | cons f fs ih =>
    cases k with
    | zero => simp
    | succ k =>
      have e : (k + 1) * 3 = (T.cells f).length + k * 3 := by simp [T.cells]; omega
      rw [List.drop_succ_cons, cellsT_cons, ih, e, List.drop_length_add_append]

/-- the slice at A has the timers fs, below block B -/
def Tims (w : World) (B : Nat) (A : Option Addr) (fs : List T) : Prop :=
  fs ≠ [] → ∃ b o, A = some ⟨b, o, none⟩ ∧ b < B ∧ ∀ j v, (cellsT fs)[j]? = some v → w.cell? ⟨b, o + j, none⟩ = some v
theorem Tims.none (w : World) (B : Nat) (A : Option Addr) : Tims w B A [] := fun h => absurd rfl h
theorem Tims.below {w w' : World} {B : Nat} {A : Option Addr} {fs : List T} (h : Tims w B A fs) (hb : Below B w w') : Tims w' B A fs := fun hl => by
  obtain ⟨b, o, e, hlt, hc⟩ := h hl
  exact ⟨b, o, e, hlt, fun j v hv => (hb.cell (p := ⟨b, o + j, Option.none⟩) hlt).trans (hc j v hv)⟩
theorem Tims.more {w : World} {B B' : Nat} {A : Option Addr} {fs : List T} (h : Tims w B A fs) (hB : B ≤ B') : Tims w B' A fs := fun hl => by
  obtain ⟨b, o, e, hlt, hc⟩ := h hl
  exact ⟨b, o, e, by omega, hc⟩
theorem Tims.take {w : World} {B : Nat} {A : Option Addr} {fs : List T} (h : Tims w B A fs) (k : Nat) : Tims w B A (fs.take k) := fun hl => by
  obtain ⟨b, o, e, hlt, hc⟩ := h (by rintro rfl; simp at hl)
  refine ⟨b, o, e, hlt, fun j v hv => hc j v ?_⟩
  rw [cellsT_take] at hv
  rw [List.getElem?_take] at hv
  split at hv
  · exact hv
  · cases hv
theorem Tims.drop {w : World} {B : Nat} {A : Option Addr} {fs : List T} (h : Tims w B A fs) {k c : Nat} (hc : fs.length ≤ c) : Tims w B (if c = k then A else A.map (·.add (k * 3))) (fs.drop k) := fun hl => by
  have hk : k < fs.length := by
    rcases Nat.lt_or_ge k fs.length with h1 | h1
    · exact h1
    · exact absurd (List.drop_eq_nil_of_le h1) hl
  obtain ⟨b, o, rfl, hlt, hcell⟩ := h (by rintro rfl; simp at hk)
  rw [if_neg (by omega)]
  refine ⟨b, o + k * 3, ?_, hlt, fun j v hv => ?_⟩
  · simp only [Option.map_some, Option.some.injEq]
    unfold Addr.add
    split <;> simp_all
  · rw [Nat.add_assoc]
    refine hcell (k * 3 + j) v ?_
    rw [cellsT_drop, List.getElem?_drop] at hv
    exact hv
/-- its three cells -/
theorem Tims.three {w : World} {B : Nat} {A : Option Addr} {fs : List T} (h : Tims w B A fs) {k : Nat} (hk : k < fs.length) : ∃ b o, A = some ⟨b, o, Option.none⟩ ∧ b < B ∧
    w.cell? ⟨b, o + k * 3, Option.none⟩ = some (.int .i64 (fs[k].h : Int)) ∧ w.cell? ⟨b, o + k * 3 + 1, Option.none⟩ = some (.int .i64 fs[k].id) ∧ w.cell? ⟨b, o + k * 3 + 2, Option.none⟩ = some (.int .i64 (fs[k].due : Int)) := by
  obtain ⟨b, o, e, hlt, hc⟩ := h (by rintro rfl; simp at hk)
  have hx : ∀ j v, j < 3 → (T.cells fs[k])[j]? = some v → w.cell? ⟨b, o + k * 3 + j, Option.none⟩ = some v := fun j v hj hv => by
    rw [Nat.add_assoc]
    exact hc _ v ((cellsT_at fs k j hk hj).trans hv)
  exact ⟨b, o, e, hlt, hx 0 _ (by omega) rfl, hx 1 _ (by omega) rfl, hx 2 _ (by omega) rfl⟩
theorem Tims.own {w : World} {base : Nat} {e : TypeId} {A : Option Addr} {n c : Nat} {fs : List T} (h : w.ownsRow base e 3 (.slice A n c) n (cellsT fs)) : Tims w w.heap.size A fs := fun hl => by
  have hn : n = fs.length := by have := h.1; rw [cellsT_len] at this; omega
  rcases h.2 with ⟨h1, h0⟩ | ⟨g, cap, cur, h1, _, hg, _⟩
  · exact absurd (List.eq_nil_of_length_eq_zero (by omega)) hl
  · injection h1 with h1 _ h2
    subst h1
    subst h2
    refine ⟨g, 0, rfl, (Array.getElem?_eq_some_iff.1 hg).1, fun j v hv => ?_⟩
    have hj : j < n * 3 := by
      rcases Nat.lt_or_ge j (n * 3) with h1 | h1
      · exact h1
      · rw [List.getElem?_eq_none (by rw [cellsT_len]; omega)] at hv; cases hv
    rw [Nat.zero_add, h.cellAt j hj, hv]

section
variable {P : Program}
theorem add_at (b o n : Nat) : (⟨b, o, none⟩ : Addr).add n = ⟨b, o + n, none⟩ := by unfold Addr.add; split <;> simp_all
theorem run_append_tims (w : World) (base : Nat) (t ty e : TypeId) (i : TypeInfo) (z : Value) (ht : P.underlying t = some (.slice e)) (hi : P.info? e = some i) (hz : i.zero = some z)
    (hsize : i.size = 3) (hby : i.bytes = 24) (hzs : z.cells.size = 3)
    (v : Value) (n : Nat) (xs : List Value) (hown : w.ownsRow base e 3 v n xs) (B : Nat) (A : Option Addr) (c : Nat) (l : List T) (hr : Tims w B A l)
    (hb : n + l.length ≤ 1000000) (hbase : base ≤ w.heap.size) :
    ∃ v' w', (Builtin.append_ #[t, t] ty #[v, .slice A l.length c]).run P w = .ok v' w' ∧ w'.ownsRow base e 3 v' (n + l.length) (xs ++ cellsT l) ∧ w.grownBy w' v.ownBlock ∧
      (v'.ownBlock = v.ownBlock ∨ v'.ownBlock = some w.heap.size) := by
  have key : ∀ a : Addr, A = some a → (∀ j u, (cellsT l)[j]? = some u → w.cell? (a.add j) = some u) → ∃ v' w', (Builtin.append_ #[t, t] ty #[v, .slice A l.length c]).run P w = .ok v' w' ∧
      w'.ownsRow base e 3 v' (n + l.length) (xs ++ cellsT l) ∧ w.grownBy w' v.ownBlock ∧ (v'.ownBlock = v.ownBlock ∨ v'.ownBlock = some w.heap.size) := by
    rintro a rfl hc
    obtain ⟨v', w', h1, h2, h3, _, h5⟩ := run_append_own_at (P := P) w base t ty e i z 3 24 ht hi hz hsize hby hzs (by omega) v n xs hown a l.length c (cellsT l) (cellsT_len l) hc (cellsT_one l)
      (by unfold maxLen; omega) (by omega) hbase
    exact ⟨v', w', h1, h2, h3, h5⟩
  by_cases hl : l = []
  · subst hl
    cases A with
    | some a => exact key a rfl (by simp [cellsT])
    | none =>
      refine ⟨v, w, ?_, by simpa [cellsT] using hown, World.grownBy.refl w _, .inl rfl⟩
      rcases hown.2 with ⟨rfl, rfl⟩ | ⟨g, cap, cur, rfl, _, _, hnc, _⟩
      · simp [Builtin.append_, run_underlying ht, sizeOf, typeInfo, hi, Builtin.lenOf, Builtin.firstCells]
      · simp [Builtin.append_, run_underlying ht, sizeOf, typeInfo, hi, Builtin.lenOf, Builtin.firstCells, hnc, storeCells]
  · obtain ⟨b, o, rfl, _, hc⟩ := hr hl
    refine key _ rfl fun j u hu => ?_
    rw [add_at]
    exact hc j u hu
theorem wp_append_tims (w : World) {o : Oper} {a : Act} {K : Act → World → Prop} {Q : Exit → Act → World → Prop} (s x : Operand) (t : TypeId)
    (ho : o.op = .call { callee := .builtin .append, args := #[s, x], argTypes := #[t, t] })
    (base : Nat) (e : TypeId) (i : TypeInfo) (z : Value) (ht : P.underlying t = some (.slice e)) (hi : P.info? e = some i) (hz : i.zero = some z) (hsize : i.size = 3) (hby : i.bytes = 24) (hzs : z.cells.size = 3)
    (v : Value) (n : Nat) (xs : List Value) (hs : a.eval s = v) (hown : w.ownsRow base e 3 v n xs) (B : Nat) (A : Option Addr) (m c : Nat) (l : List T) (hx : a.eval x = .slice A m c) (hm : m = l.length) (hr : Tims w B A l)
    (hb : n + l.length ≤ 1000000) (hbase : base ≤ w.heap.size)
    (h : ∀ v' w', w'.ownsRow base e 3 v' (n + l.length) (xs ++ cellsT l) → w.grownBy w' v.ownBlock → (v'.ownBlock = v.ownBlock ∨ v'.ownBlock = some w.heap.size) → K (a.put o.dst v') w') : o.wp P a w K Q := by
  subst hm
  obtain ⟨v', w', hrun, h2, h3, h4⟩ := run_append_tims (P := P) w base t o.type e i z ht hi hz hsize hby hzs v n xs hown B A c l hr hb hbase
  unfold Oper.wp execOp
  simp only [ho, resolve, invoke, builtin, Sem.run_bind, Sem.run_pure, Result.andThen_ok, List.map_toArray, List.map_cons, List.map_nil, hs, hx, hrun]
  exact h v' w' h2 h3 h4
theorem step_append_tims (w : World) {ops : Array Oper} {o : Oper} {a : Act} {K : Act → World → Prop} {Q : Exit → Act → World → Prop} {Z : Prop} (hgd : o.guard = none) (s x : Operand) (t : TypeId)
    (ho : o.op = .call { callee := .builtin .append, args := #[s, x], argTypes := #[t, t] })
    (base : Nat) (e : TypeId) (i : TypeInfo) (z : Value) (ht : P.underlying t = some (.slice e)) (hi : P.info? e = some i) (hz : i.zero = some z) (hsize : i.size = 3) (hby : i.bytes = 24) (hzs : z.cells.size = 3)
    (v : Value) (n : Nat) (xs : List Value) (hs : a.eval s = v) (hown : w.ownsRow base e 3 v n xs) (B : Nat) (A : Option Addr) (m c : Nat) (l : List T) (hx : a.eval x = .slice A m c) (hm : m = l.length) (hr : Tims w B A l)
    (hb : n + l.length ≤ 1000000) (hbase : base ≤ w.heap.size)
    (h : ∀ v' w', w'.ownsRow base e 3 v' (n + l.length) (xs ++ cellsT l) → w.grownBy w' v.ownBlock → (v'.ownBlock = v.ownBlock ∨ v'.ownBlock = some w.heap.size) → K (a.put o.dst v') w') :
    if Region.wanted o (yielded ops a.tmps) = true then Oper.wp P o a w K Q else Z := by
  have hw : Region.wanted o (yielded ops a.tmps) = true := by simp [Region.wanted, hgd]
  rw [if_pos hw]
  exact wp_append_tims w s x t ho base e i z ht hi hz hsize hby hzs v n xs hs hown B A m c l hx hm hr hb hbase h

end
/-- l[:k] -/
theorem cutF_to (W : World) (A : Option Addr) (n c k : Nat) (hk : k ≤ c) :
    (Instr.slice 26 (.slice A n c) none (some (.int .i64 (k : Int))) none).run Try.prog W = .ok (.slice A k c) W := by
  have ht' : Try.prog.underlying 26 = some (.slice (Try.prog.elem 26)) := by simp [Program.elem, Try.underlying26]
  have he : Try.prog.elem 26 = 34 := by simp [Program.elem, Try.underlying26]
  have hz : (Go.sizeOf 34).run Try.prog W = .ok 3 W := by kernel_rfl
  rw [run_slice_h W _ _ _ _ ht' .i64 _ (by omega) (by omega), he, hz]
  cases A <;> simp [Result.andThen, sliced, Addr.add]
/-- l[k:] -/
theorem cutF_from (W : World) (A : Option Addr) (n c k : Nat) (hk : k ≤ n) :
    (Instr.slice 26 (.slice A n c) (some (.int .i64 (k : Int))) none none).run Try.prog W = .ok (.slice (if c = k then A else A.map (·.add (k * 3))) (n - k) (c - k)) W := by
  have ht' : Try.prog.underlying 26 = some (.slice (Try.prog.elem 26)) := by simp [Program.elem, Try.underlying26]
  have he : Try.prog.elem 26 = 34 := by simp [Program.elem, Try.underlying26]
  have hz : (Go.sizeOf 34).run Try.prog W = .ok 3 W := by kernel_rfl
  rw [run_slice_l W _ _ _ _ ht' .i64 _ (by omega) (by omega), he, hz]
  simp [Result.andThen, sliced]
/-- a new row of timers -/
def TimsAre (w : World) (fs : List T) (e : Ending) (w' : World) : Prop :=
  ∃ v, e = .returned v ∧ w'.ownsRow w.heap.size 34 3 v fs.length (cellsT fs) ∧ Below w.heap.size w w'

set_option maxHeartbeats 1000000 in
set_option maxRecDepth 100000 in
theorem rwithout_any (A : Option Addr) (fs : List T) (c k : Nat) (w : World) (h : Tims w w.heap.size A fs) (hn : fs.length ≤ 300) (hc : fs.length ≤ c) (hk : k < fs.length) :
    Calls Try.prog 13 #[.slice A fs.length c, .int .i64 (k : Int)] w (TimsAre w (fs.take k ++ fs.drop (k + 1))) := by
  obtain ⟨i0, hi0, hz0, hz1, hz2⟩ := info_parts infoA
  obtain ⟨n, hnn⟩ : ∃ n, n = fs.length := ⟨_, rfl⟩
  have h1 := h.take k
  have h2 := h.drop (k := k + 1) hc
  have l1 : (fs.take k).length = k := by simp; omega
  have l2 : (fs.drop (k + 1)).length = n - (k + 1) := by simp [hnn]
  have l3 : (fs.take k ++ fs.drop (k + 1)).length = k + (n - (k + 1)) := by rw [List.length_append, l1, l2]
  have ec := cellsT_app (fs.take k) (fs.drop (k + 1))
  rw [← hnn] at hn hc hk ⊢
  unfold TimsAre
  rw [l3, ec]
  generalize fs.take k = a at h1 l1
  generalize fs.drop (k + 1) = d at h2 l2
  have cut1 := fun W => cutF_to W A n c k (by omega)
  have cut2 := fun W => cutF_from W A n c (k + 1) (by omega)
  generalize (if c = k + 1 then A else A.map (·.add ((k + 1) * 3))) = A2 at h2 cut2
  have L1 := Lib.hid l1
  have L2 := Lib.hid l2
  have hwr : IntKind.i64.wrap ((k : Int) + 1) = (k : Int) + 1 := IntWalk.i64_in _ (by omega)
  have hcast : (((k + 1 : Nat)) : Int) = (k : Int) + 1 := by omega
  rw [hcast] at cut2
  clear l1 l2 l3 ec h hnn hcast
  go_enter Try.func13, Try.ntmps13
  go_wp2
  go_region_held3 (fun w' => Below w.heap.size w w') (first | exact Below.refl _ _ | exact Below.drew (Below.refl _ _) | assumption | exact (Below.alloc (by assumption) (Below.size (by assumption)) _))
    (first
      | (refine step_append_tims _ rfl (.tmp 5) (.tmp 8) 26 rfl w.heap.size 34 i0 _ Try.underlying26 hi0 hz0 hz1 hz2 rfl _ 0 [] rfl (World.ownsRow_lit w.drew #[] 0 (Nat.le_refl _) (by decide) rfl) w.heap.size _ _ _ a rfl L1.out.symm (by exact h1.below (Below.alloc (Below.drew (Below.refl _ _)) (Nat.le_refl _) _)) (by rw [L1.out]; omega) (by simp) ?_; intro v2 w2 hown2 hg2 hat2; have hS2 : Below w.heap.size w w2 := ((Below.drew (Below.refl _ w)).alloc (Nat.le_refl _) _).grown hg2 (by simp) (fun j hj => ((World.ownsRow_lit (base := w.heap.size) (e := 34) (size := 3) w.drew #[] 0 (Nat.le_refl _) (by decide) rfl).lt j hj).1))
      | (refine step_append_tims _ rfl (.tmp 9) (.tmp 13) 26 rfl w.heap.size 34 i0 _ Try.underlying26 hi0 hz0 hz1 hz2 rfl _ (0 + a.length) _ rfl hown2 w.heap.size _ _ _ d rfl L2.out.symm (h2.below hS2) (by rw [L1.out, L2.out]; omega) hS2.size ?_; intro v3 w3 hown3 hg3 hat3; have hS3 : Below w.heap.size w w3 := hS2.grown hg3 hS2.size (fun j hj => (hown2.lt j hj).1)))
  all_goals
    have HO := Lib.hid hown3
    clear hown2 hown3 hg2 hg3 hat2 hat3 cut1 cut2 hS2
    go_wp2
    go_ret
    refine ⟨v3, rfl, ?_, hS3⟩
    have h := HO.out
    rw [L1.out, L2.out] at h
    simpa using h

end Go.Proofs.Ytobodianbjfgfaa.Wh
