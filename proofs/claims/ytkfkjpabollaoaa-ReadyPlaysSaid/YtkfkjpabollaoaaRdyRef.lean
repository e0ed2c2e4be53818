/-
  The document's rows of entries: cells, an append of them, and what its Without leaves.
  Conditions: at most 300 entries.
-/
import Derived.Test.YtkfkjpabollaoaaRdyOrder
import Derived.Test.YtkfkjpabollaoaaRdyTake
import Derived.IntWalk
import Derived.Deep.RegionHeld3
namespace Go.Proofs.Ytkfkjpabollaoaa
open Go.RowKit

/-- an entry's cells -/
def entC (x : E) : List Value := [.int .i64 (x.h : Int), .int .i64 x.id, .int .i64 x.wt]
def cellsE (fs : List E) : List Value := fs.flatMap entC
theorem cellsE_cons (f : E) (fs : List E) : cellsE (f :: fs) = entC f ++ cellsE fs := rfl
theorem cellsE_app (a b : List E) : cellsE (a ++ b) = cellsE a ++ cellsE b := by unfold cellsE; rw [List.flatMap_append]
theorem cellsE_len : ∀ fs : List E, (cellsE fs).length = fs.length * 3
  | [] => rfl
  | f :: fs => by rw [cellsE_cons, List.length_append, cellsE_len fs, List.length_cons]; simp [entC]; omega
theorem cellsE_at : ∀ (fs : List E) (k j : Nat) (h : k < fs.length), j < 3 → (cellsE fs)[k * 3 + j]? = (entC fs[k])[j]?
  | f :: fs, 0, j, _, hj => by
    rw [cellsE_cons, List.getElem?_append_left (by simp [entC]; omega)]
    simp
  | f :: fs, k + 1, j, h, hj => by
    have e : (k + 1) * 3 + j = (entC f).length + (k * 3 + j) := by simp [entC]; omega
    rw [cellsE_cons, e, List.getElem?_append_right (by omega), Nat.add_sub_cancel_left, cellsE_at fs k j (by simpa using h) hj]
    rfl
theorem cellsE_one (fs : List E) : ∀ u ∈ cellsE fs, u.oneCell' = true := by
  intro u hu
  obtain ⟨f, _, hf⟩ := List.mem_flatMap.1 hu
  simp only [entC, List.mem_cons, List.not_mem_nil, or_false] at hf
  rcases hf with rfl | rfl | rfl <;> rfl
theorem cellsE_take (fs : List E) (k : Nat) : cellsE (fs.take k) = (cellsE fs).take (k * 3) := by
  induction fs generalizing k with
  | nil => simp [cellsE]
  | cons f fs ih =>
    cases k with
    | zero => simp [cellsE]
    | succ k =>
      have e : (k + 1) * 3 = (entC f).length + k * 3 := by simp [entC]; omega
      rw [List.take_succ_cons, cellsE_cons, cellsE_cons, ih, e, List.take_length_add_append]
theorem cellsE_drop (fs : List E) (k : Nat) : cellsE (fs.drop k) = (cellsE fs).drop (k * 3) := by
  induction fs generalizing k with
  | nil => simp [cellsE]
  | cons f fs ih =>
    cases k with
    | zero => simp
    | succ k =>
      have e : (k + 1) * 3 = (entC f).length + k * 3 := by simp [entC]; omega
      rw [List.drop_succ_cons, cellsE_cons, ih, e, List.drop_length_add_append]

/-- the slice at A has the entries fs, below block B -/
def Ents (w : World) (B : Nat) (A : Option Addr) (fs : List E) : Prop :=
  fs ≠ [] → ∃ b o, A = some ⟨b, o, none⟩ ∧ b < B ∧ ∀ j v, (cellsE fs)[j]? = some v → w.cell? ⟨b, o + j, none⟩ = some v
theorem Ents.none (w : World) (B : Nat) (A : Option Addr) : Ents w B A [] := fun h => absurd rfl h
theorem Ents.below {w w' : World} {B : Nat} {A : Option Addr} {fs : List E} (h : Ents w B A fs) (hb : Below B w w') : Ents w' B A fs := fun hl => by
  obtain ⟨b, o, e, hlt, hc⟩ := h hl
  exact ⟨b, o, e, hlt, fun j v hv => (hb.cell (p := ⟨b, o + j, Option.none⟩) hlt).trans (hc j v hv)⟩
theorem Ents.more {w : World} {B B' : Nat} {A : Option Addr} {fs : List E} (h : Ents w B A fs) (hB : B ≤ B') : Ents w B' A fs := fun hl => by
  obtain ⟨b, o, e, hlt, hc⟩ := h hl
  exact ⟨b, o, e, by omega, hc⟩
theorem Ents.take {w : World} {B : Nat} {A : Option Addr} {fs : List E} (h : Ents w B A fs) (k : Nat) : Ents w B A (fs.take k) := fun hl => by
  obtain ⟨b, o, e, hlt, hc⟩ := h (by rintro rfl; simp at hl)
  refine ⟨b, o, e, hlt, fun j v hv => hc j v ?_⟩
  rw [cellsE_take] at hv
  rw [List.getElem?_take] at hv
  split at hv
  · exact hv
  · cases hv
theorem Ents.drop {w : World} {B : Nat} {A : Option Addr} {fs : List E} (h : Ents w B A fs) {k c : Nat} (hc : fs.length ≤ c) : Ents w B (if c = k then A else A.map (·.add (k * 3))) (fs.drop k) := fun hl => by
  have hk : k < fs.length := by
    rcases Nat.lt_or_ge k fs.length with h1 | h1
    · exact h1
    · exact absurd (List.drop_eq_nil_of_le h1) hl
  obtain ⟨b, o, rfl, hlt, hcell⟩ := h (by rintro rfl; simp at hk)
  rw [if_neg (by omega)]
  refine ⟨b, o + k * 3, ?_, hlt, fun j v hv => ?_⟩
  · simp only [Option.map_some, Option.some.injEq]
    unfold Addr.add
    split <;> simp_all
  · rw [Nat.add_assoc]
    refine hcell (k * 3 + j) v ?_
    rw [cellsE_drop, List.getElem?_drop] at hv
    exact hv
/-- its three cells -/
theorem Ents.three {w : World} {B : Nat} {A : Option Addr} {fs : List E} (h : Ents w B A fs) {k : Nat} (hk : k < fs.length) : ∃ b o, A = some ⟨b, o, Option.none⟩ ∧ b < B ∧
    w.cell? ⟨b, o + k * 3, Option.none⟩ = some (.int .i64 (fs[k].h : Int)) ∧ w.cell? ⟨b, o + k * 3 + 1, Option.none⟩ = some (.int .i64 fs[k].id) ∧ w.cell? ⟨b, o + k * 3 + 2, Option.none⟩ = some (.int .i64 fs[k].wt) := by
  obtain ⟨b, o, e, hlt, hc⟩ := h (by rintro rfl; simp at hk)
  have hx : ∀ j v, j < 3 → (entC fs[k])[j]? = some v → w.cell? ⟨b, o + k * 3 + j, Option.none⟩ = some v := fun j v hj hv => by
    rw [Nat.add_assoc]
    exact hc _ v ((cellsE_at fs k j hk hj).trans hv)
  exact ⟨b, o, e, hlt, hx 0 _ (by omega) rfl, hx 1 _ (by omega) rfl, hx 2 _ (by omega) rfl⟩
theorem Ents.own {w : World} {base : Nat} {e : TypeId} {A : Option Addr} {n c : Nat} {fs : List E} (h : w.ownsRow base e 3 (.slice A n c) n (cellsE fs)) : Ents w w.heap.size A fs := fun hl => by
  have hn : n = fs.length := by have := h.1; rw [cellsE_len] at this; omega
  rcases h.2 with ⟨h1, h0⟩ | ⟨g, cap, cur, h1, _, hg, _⟩
  · exact absurd (List.eq_nil_of_length_eq_zero (by omega)) hl
  · injection h1 with h1 _ h2
    subst h1
    subst h2
    refine ⟨g, 0, rfl, (Array.getElem?_eq_some_iff.1 hg).1, fun j v hv => ?_⟩
    have hj : j < n * 3 := by
      rcases Nat.lt_or_ge j (n * 3) with h1 | h1
      · exact h1
      · rw [List.getElem?_eq_none (by rw [cellsE_len]; omega)] at hv; cases hv
    rw [Nat.zero_add, h.cellAt j hj, hv]

section
variable {P : Program}
theorem add_at (b o n : Nat) : (⟨b, o, none⟩ : Addr).add n = ⟨b, o + n, none⟩ := by unfold Addr.add; split <;> simp_all
theorem run_append_ents (w : World) (base : Nat) (t ty e : TypeId) (i : TypeInfo) (z : Value) (ht : P.underlying t = some (.slice e)) (hi : P.info? e = some i) (hz : i.zero = some z)
    (hsize : i.size = 3) (hby : i.bytes = 24) (hzs : z.cells.size = 3)
    (v : Value) (n : Nat) (xs : List Value) (hown : w.ownsRow base e 3 v n xs) (B : Nat) (A : Option Addr) (c : Nat) (l : List E) (hr : Ents w B A l)
    (hb : n + l.length ≤ 1000000) (hbase : base ≤ w.heap.size) :
    ∃ v' w', (Builtin.append_ #[t, t] ty #[v, .slice A l.length c]).run P w = .ok v' w' ∧ w'.ownsRow base e 3 v' (n + l.length) (xs ++ cellsE l) ∧ w.grownBy w' v.ownBlock ∧
      (v'.ownBlock = v.ownBlock ∨ v'.ownBlock = some w.heap.size) := by
  have key : ∀ a : Addr, A = some a → (∀ j u, (cellsE l)[j]? = some u → w.cell? (a.add j) = some u) → ∃ v' w', (Builtin.append_ #[t, t] ty #[v, .slice A l.length c]).run P w = .ok v' w' ∧
      w'.ownsRow base e 3 v' (n + l.length) (xs ++ cellsE l) ∧ w.grownBy w' v.ownBlock ∧ (v'.ownBlock = v.ownBlock ∨ v'.ownBlock = some w.heap.size) := by
    rintro a rfl hc
    obtain ⟨v', w', h1, h2, h3, _, h5⟩ := run_append_own_at (P := P) w base t ty e i z 3 24 ht hi hz hsize hby hzs (by omega) v n xs hown a l.length c (cellsE l) (cellsE_len l) hc (cellsE_one l)
      (by unfold maxLen; omega) (by omega) hbase
    exact ⟨v', w', h1, h2, h3, h5⟩
  by_cases hl : l = []
  · subst hl
    cases A with
    | some a => exact key a rfl (by simp [cellsE])
    | none =>
      refine ⟨v, w, ?_, by simpa [cellsE] using hown, World.grownBy.refl w _, .inl rfl⟩
      rcases hown.2 with ⟨rfl, rfl⟩ | ⟨g, cap, cur, rfl, _, _, hnc, _⟩
      · simp [Builtin.append_, run_underlying ht, sizeOf, typeInfo, hi, Builtin.lenOf, Builtin.firstCells]
      · simp [Builtin.append_, run_underlying ht, sizeOf, typeInfo, hi, Builtin.lenOf, Builtin.firstCells, hnc, storeCells]
  · obtain ⟨b, o, rfl, _, hc⟩ := hr hl
    refine key _ rfl fun j u hu => ?_
    rw [add_at]
    exact hc j u hu
theorem wp_append_ents (w : World) {o : Oper} {a : Act} {K : Act → World → Prop} {Q : Exit → Act → World → Prop} (s x : Operand) (t : TypeId)
    (ho : o.op = .call { callee := .builtin .append, args := #[s, x], argTypes := #[t, t] })
    (base : Nat) (e : TypeId) (i : TypeInfo) (z : Value) (ht : P.underlying t = some (.slice e)) (hi : P.info? e = some i) (hz : i.zero = some z) (hsize : i.size = 3) (hby : i.bytes = 24) (hzs : z.cells.size = 3)
    (v : Value) (n : Nat) (xs : List Value) (hs : a.eval s = v) (hown : w.ownsRow base e 3 v n xs) (B : Nat) (A : Option Addr) (m c : Nat) (l : List E) (hx : a.eval x = .slice A m c) (hm : m = l.length) (hr : Ents w B A l)
    (hb : n + l.length ≤ 1000000) (hbase : base ≤ w.heap.size)
    (h : ∀ v' w', w'.ownsRow base e 3 v' (n + l.length) (xs ++ cellsE l) → w.grownBy w' v.ownBlock → (v'.ownBlock = v.ownBlock ∨ v'.ownBlock = some w.heap.size) → K (a.put o.dst v') w') : o.wp P a w K Q := by
  subst hm
  obtain ⟨v', w', hrun, h2, h3, h4⟩ := run_append_ents (P := P) w base t o.type e i z ht hi hz hsize hby hzs v n xs hown B A c l hr hb hbase
  unfold Oper.wp execOp
  simp only [ho, resolve, invoke, builtin, Sem.run_bind, Sem.run_pure, Result.andThen_ok, List.map_toArray, List.map_cons, List.map_nil, hs, hx, hrun]
  exact h v' w' h2 h3 h4
theorem step_append_ents (w : World) {ops : Array Oper} {o : Oper} {a : Act} {K : Act → World → Prop} {Q : Exit → Act → World → Prop} {Z : Prop} (hgd : o.guard = none) (s x : Operand) (t : TypeId)
    (ho : o.op = .call { callee := .builtin .append, args := #[s, x], argTypes := #[t, t] })
    (base : Nat) (e : TypeId) (i : TypeInfo) (z : Value) (ht : P.underlying t = some (.slice e)) (hi : P.info? e = some i) (hz : i.zero = some z) (hsize : i.size = 3) (hby : i.bytes = 24) (hzs : z.cells.size = 3)
    (v : Value) (n : Nat) (xs : List Value) (hs : a.eval s = v) (hown : w.ownsRow base e 3 v n xs) (B : Nat) (A : Option Addr) (m c : Nat) (l : List E) (hx : a.eval x = .slice A m c) (hm : m = l.length) (hr : Ents w B A l)
    (hb : n + l.length ≤ 1000000) (hbase : base ≤ w.heap.size)
    (h : ∀ v' w', w'.ownsRow base e 3 v' (n + l.length) (xs ++ cellsE l) → w.grownBy w' v.ownBlock → (v'.ownBlock = v.ownBlock ∨ v'.ownBlock = some w.heap.size) → K (a.put o.dst v') w') :
    if Region.wanted o (yielded ops a.tmps) = true then Oper.wp P o a w K Q else Z := by
  have hw : Region.wanted o (yielded ops a.tmps) = true := by simp [Region.wanted, hgd]
  rw [if_pos hw]
  exact wp_append_ents w s x t ho base e i z ht hi hz hsize hby hzs v n xs hs hown B A m c l hx hm hr hb hbase h

end
theorem infoEn : (Try.prog.info? 33).map (fun i => (i.zero, i.size, i.bytes)) = some (some (.agg #[.int .i64 0, .int .i64 0, .int .i64 0]), 3, 24) := by kernel_rfl
/-- l[:k] -/
theorem cutF_to (W : World) (A : Option Addr) (n c k : Nat) (hk : k ≤ c) :
    (Instr.slice 26 (.slice A n c) none (some (.int .i64 (k : Int))) none).run Try.prog W = .ok (.slice A k c) W := by
  have ht' : Try.prog.underlying 26 = some (.slice (Try.prog.elem 26)) := by simp [Program.elem, Try.underlying26]
  have he : Try.prog.elem 26 = 33 := by simp [Program.elem, Try.underlying26]
  have hz : (Go.sizeOf 33).run Try.prog W = .ok 3 W := by kernel_rfl
  rw [run_slice_h W _ _ _ _ ht' .i64 _ (by omega) (by omega), he, hz]
  cases A <;> simp [Result.andThen, sliced, Addr.add]
/-- l[k:] -/
theorem cutF_from (W : World) (A : Option Addr) (n c k : Nat) (hk : k ≤ n) :
    (Instr.slice 26 (.slice A n c) (some (.int .i64 (k : Int))) none none).run Try.prog W = .ok (.slice (if c = k then A else A.map (·.add (k * 3))) (n - k) (c - k)) W := by
  have ht' : Try.prog.underlying 26 = some (.slice (Try.prog.elem 26)) := by simp [Program.elem, Try.underlying26]
  have he : Try.prog.elem 26 = 33 := by simp [Program.elem, Try.underlying26]
  have hz : (Go.sizeOf 33).run Try.prog W = .ok 3 W := by kernel_rfl
  rw [run_slice_l W _ _ _ _ ht' .i64 _ (by omega) (by omega), he, hz]
  simp [Result.andThen, sliced]
/-- a new row of entries -/
def EntsAre (w : World) (fs : List E) (e : Ending) (w' : World) : Prop :=
  ∃ v, e = .returned v ∧ w'.ownsRow w.heap.size 33 3 v fs.length (cellsE fs) ∧ Below w.heap.size w w'

set_option maxHeartbeats 1000000 in
set_option maxRecDepth 100000 in
theorem rwithout_any (A : Option Addr) (fs : List E) (c k : Nat) (w : World) (h : Ents w w.heap.size A fs) (hn : fs.length ≤ 300) (hc : fs.length ≤ c) (hk : k < fs.length) :
    Calls Try.prog 11 #[.slice A fs.length c, .int .i64 (k : Int)] w (EntsAre w (fs.take k ++ fs.drop (k + 1))) := by
  obtain ⟨i0, hi0, hz0, hz1, hz2⟩ := info_parts infoEn
  obtain ⟨n, hnn⟩ : ∃ n, n = fs.length := ⟨_, rfl⟩
  have h1 := h.take k
  have h2 := h.drop (k := k + 1) hc
  have l1 : (fs.take k).length = k := by simp; omega
  have l2 : (fs.drop (k + 1)).length = n - (k + 1) := by simp [hnn]
  have l3 : (fs.take k ++ fs.drop (k + 1)).length = k + (n - (k + 1)) := by rw [List.length_append, l1, l2]
  have ec := cellsE_app (fs.take k) (fs.drop (k + 1))
  rw [← hnn] at hn hc hk ⊢
  unfold EntsAre
  rw [l3, ec]
  generalize fs.take k = a at h1 l1
  generalize fs.drop (k + 1) = d at h2 l2
  have cut1 := fun W => cutF_to W A n c k (by omega)
  have cut2 := fun W => cutF_from W A n c (k + 1) (by omega)
  generalize (if c = k + 1 then A else A.map (·.add ((k + 1) * 3))) = A2 at h2 cut2
  have L1 := Lib.hid l1
  have L2 := Lib.hid l2
  have hwr : IntKind.i64.wrap ((k : Int) + 1) = (k : Int) + 1 := IntWalk.i64_in _ (by omega)
  have hcast : (((k + 1 : Nat)) : Int) = (k : Int) + 1 := by omega
  rw [hcast] at cut2
  clear l1 l2 l3 ec h hnn hcast
  go_enter Try.func11, Try.ntmps11
  go_wp2
  go_region_held3 (fun w' => Below w.heap.size w w') (first | exact Below.refl _ _ | exact Below.drew (Below.refl _ _) | assumption | exact (Below.alloc (by assumption) (Below.size (by assumption)) _))
    (first
      | (refine step_append_ents _ rfl (.tmp 5) (.tmp 8) 26 rfl w.heap.size 33 i0 _ Try.underlying26 hi0 hz0 hz1 hz2 rfl _ 0 [] rfl (World.ownsRow_lit w.drew #[] 0 (Nat.le_refl _) (by decide) rfl) w.heap.size _ _ _ a rfl L1.out.symm (by exact h1.below (Below.alloc (Below.drew (Below.refl _ _)) (Nat.le_refl _) _)) (by rw [L1.out]; omega) (by simp) ?_; intro v2 w2 hown2 hg2 hat2; have hS2 : Below w.heap.size w w2 := ((Below.drew (Below.refl _ w)).alloc (Nat.le_refl _) _).grown hg2 (by simp) (fun j hj => ((World.ownsRow_lit (base := w.heap.size) (e := 33) (size := 3) w.drew #[] 0 (Nat.le_refl _) (by decide) rfl).lt j hj).1))
      | (refine step_append_ents _ rfl (.tmp 9) (.tmp 13) 26 rfl w.heap.size 33 i0 _ Try.underlying26 hi0 hz0 hz1 hz2 rfl _ (0 + a.length) _ rfl hown2 w.heap.size _ _ _ d rfl L2.out.symm (h2.below hS2) (by rw [L1.out, L2.out]; omega) hS2.size ?_; intro v3 w3 hown3 hg3 hat3; have hS3 : Below w.heap.size w w3 := hS2.grown hg3 hS2.size (fun j hj => (hown2.lt j hj).1)))
  all_goals
    have HO := Lib.hid hown3
    clear hown2 hown3 hg2 hg3 hat2 hat3 cut1 cut2 hS2
    go_wp2
    go_ret
    refine ⟨v3, rfl, ?_, hS3⟩
    have h := HO.out
    rw [L1.out, L2.out] at h
    simpa using h

end Go.Proofs.Ytkfkjpabollaoaa
