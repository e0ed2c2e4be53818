/-
  Rows that the document's Do of states makes: appends of rows that read as lists, cuts; the blocks that it lays first; a saga put into a copy of a row.
  Conditions: none.
-/
import Derived.Test.YteejocnogpaifaaGreatDoorStaDo
import Derived.Test.YteejocnogpaifaaGreatDoorStaRGood
import Derived.Test.YteejocnogpaifaaGreatDoorMrg1
import Derived.Great.BuildSlice
namespace Go.Proofs.YteejocnogpaifaaGreatDoor.Tt
open Go.RowKit
open Go.Proofs.YteejocnogpaifaaGreatDoor.El
open Go.Proofs.YteejocnogpaifaaGreatDoor.Df
open Go.Proofs.YteejocnogpaifaaGreatDoor.Bo (P Made ret_int ret_bool)
open Go.Proofs.YteejocnogpaifaaGreatDoor.Sa (Sg Cm Rp cm0)
open Go.Proofs.YteejocnogpaifaaGreatDoor.Co (Ev Mod evc EvIn goodE)

section
variable {α : Type} {ec : α → List Value} {k : Nat} {w : World} {B c : Nat} {A : Option Addr} {l : List α}
theorem els_drop (h : Els ec k w B A l) (hc : l.length ≤ c) (r : Nat) : Els ec k w B (if c = r then A else A.map (·.add (r * k))) (l.drop r) := fun i a ha => by
  rw [List.getElem?_drop] at ha
  have hi := at_lt ha
  obtain ⟨b, o, rfl, hlt, hx⟩ := h _ a ha
  rw [if_neg (by omega)]
  refine ⟨b, o + r * k, by simp [Addr.add_lit], hlt, fun j u hu => ?_⟩
  have := hx j u hu
  rw [Nat.add_mul, ← Nat.add_assoc] at this
  exact this
end
section
variable {P : Program} {α : Type} {ec : α → List Value} {k : Nat}
theorem run_append_els (k0 : 0 < k) (hk : ∀ a, (ec a).length = k) (h1 : ∀ a, ∀ u ∈ ec a, u.oneCell' = true) (w : World) (base : Nat) (t ty e : TypeId) (i : TypeInfo) (z : Value) (bytes : Nat) (ht : P.underlying t = some (.slice e)) (hi : P.info? e = some i) (hz : i.zero = some z)
    (hsize : i.size = k) (hby : i.bytes = bytes) (hzs : z.cells.size = k)
    (v : Value) (n : Nat) (xs : List Value) (hown : w.ownsRow base e k v n xs) (B : Nat) (A : Option Addr) (c : Nat) (l : List α) (hr : Els ec k w B A l)
    (hm : n + l.length ≤ maxLen) (hb : (n + l.length) * bytes ≤ 140737488355328) (hbase : base ≤ w.heap.size) :
    ∃ v' w', (Builtin.append_ #[t, t] ty #[v, .slice A l.length c]).run P w = .ok v' w' ∧ w'.ownsRow base e k v' (n + l.length) (xs ++ l.flatMap ec) ∧ w.grownBy w' v.ownBlock ∧
      (v'.ownBlock = v.ownBlock ∨ v'.ownBlock = some w.heap.size) := by
  cases A with
  | some a =>
    obtain ⟨v', w', h1, h2, h3, _, h5⟩ := run_append_own_at (P := P) w base t ty e i z k bytes ht hi hz hsize hby hzs k0 v n xs hown a l.length c (l.flatMap ec) (flat_len hk l) (els_cells k0 hk hr) (flat_one h1 l) hm hb hbase
    exact ⟨v', w', h1, h2, h3, h5⟩
  | none =>
    have hl : l = [] := by
      cases l with
      | nil => rfl
      | cons x l => obtain ⟨b, o, e, _⟩ := hr 0 x rfl; cases e
    subst hl
    refine ⟨v, w, ?_, by simpa using hown, World.grownBy.refl w _, .inl rfl⟩
    rcases hown.2 with ⟨rfl, rfl⟩ | ⟨g, cap, cur, rfl, _, _, hnc, _⟩
    · simp [Builtin.append_, run_underlying ht, sizeOf, typeInfo, hi, Builtin.lenOf, Builtin.firstCells]
    · simp [Builtin.append_, run_underlying ht, sizeOf, typeInfo, hi, Builtin.lenOf, Builtin.firstCells, hnc, storeCells]
theorem wp_append_els (k0 : 0 < k) (hk : ∀ a, (ec a).length = k) (h1 : ∀ a, ∀ u ∈ ec a, u.oneCell' = true) (w : World) {o : Oper} {a : Act} {K : Act → World → Prop} {Q : Exit → Act → World → Prop} (s x : Operand) (t : TypeId)
    (ho : o.op = .call { callee := .builtin .append, args := #[s, x], argTypes := #[t, t] })
    (base : Nat) (e : TypeId) (i : TypeInfo) (z : Value) (bytes : Nat) (ht : P.underlying t = some (.slice e)) (hi : P.info? e = some i) (hz : i.zero = some z) (hsize : i.size = k) (hby : i.bytes = bytes) (hzs : z.cells.size = k)
    (v : Value) (n : Nat) (xs : List Value) (hs : a.eval s = v) (hown : w.ownsRow base e k v n xs) (B : Nat) (A : Option Addr) (m c : Nat) (l : List α) (hx : a.eval x = .slice A m c) (hl : m = l.length) (hr : Els ec k w B A l)
    (hm : n + l.length ≤ maxLen) (hb : (n + l.length) * bytes ≤ 140737488355328) (hbase : base ≤ w.heap.size)
    (h : ∀ v' w', w'.ownsRow base e k v' (n + l.length) (xs ++ l.flatMap ec) → w.grownBy w' v.ownBlock → (v'.ownBlock = v.ownBlock ∨ v'.ownBlock = some w.heap.size) → K (a.put o.dst v') w') : o.wp P a w K Q := by
  subst hl
  obtain ⟨v', w', hrun, h2, h3, h4⟩ := run_append_els (P := P) k0 hk h1 w base t o.type e i z bytes ht hi hz hsize hby hzs v n xs hown B A c l hr hm hb hbase
  unfold Oper.wp execOp
  simp only [ho, resolve, invoke, builtin, Sem.run_bind, Sem.run_pure, Result.andThen_ok, List.map_toArray, List.map_cons, List.map_nil, hs, hx, hrun]
  exact h v' w' h2 h3 h4
theorem step_append_els (k0 : 0 < k) (hk : ∀ a, (ec a).length = k) (h1 : ∀ a, ∀ u ∈ ec a, u.oneCell' = true) (w : World) {ops : Array Oper} {o : Oper} {a : Act} {K : Act → World → Prop} {Q : Exit → Act → World → Prop} {E : Prop} (hgd : o.guard = none) (s x : Operand) (t : TypeId)
    (ho : o.op = .call { callee := .builtin .append, args := #[s, x], argTypes := #[t, t] })
    (base : Nat) (e : TypeId) (i : TypeInfo) (z : Value) (bytes : Nat) (ht : P.underlying t = some (.slice e)) (hi : P.info? e = some i) (hz : i.zero = some z) (hsize : i.size = k) (hby : i.bytes = bytes) (hzs : z.cells.size = k)
    (v : Value) (n : Nat) (xs : List Value) (hs : a.eval s = v) (hown : w.ownsRow base e k v n xs) (B : Nat) (A : Option Addr) (m c : Nat) (l : List α) (hx : a.eval x = .slice A m c) (hl : m = l.length) (hr : Els ec k w B A l)
    (hm : n + l.length ≤ maxLen) (hb : (n + l.length) * bytes ≤ 140737488355328) (hbase : base ≤ w.heap.size)
    (h : ∀ v' w', w'.ownsRow base e k v' (n + l.length) (xs ++ l.flatMap ec) → w.grownBy w' v.ownBlock → (v'.ownBlock = v.ownBlock ∨ v'.ownBlock = some w.heap.size) → K (a.put o.dst v') w') :
    if Region.wanted o (yielded ops a.tmps) = true then Oper.wp P o a w K Q else E := by
  have hw : Region.wanted o (yielded ops a.tmps) = true := by simp [Region.wanted, hgd]
  rw [if_pos hw]
  exact wp_append_els k0 hk h1 w s x t ho base e i z bytes ht hi hz hsize hby hzs v n xs hs hown B A m c l hx hl hr hm hb hbase h
theorem wpList_append_els (k0 : 0 < k) (hk : ∀ a, (ec a).length = k) (h1 : ∀ a, ∀ u ∈ ec a, u.oneCell' = true) (w : World) {ops : Array Oper} {rest : List Oper} {o : Oper} {a : Act} {Q : Exit → Act → World → Prop} (hgd : o.guard = none) (s x : Operand) (t : TypeId)
    (ho : o.op = .call { callee := .builtin .append, args := #[s, x], argTypes := #[t, t] })
    (base : Nat) (e : TypeId) (i : TypeInfo) (z : Value) (bytes : Nat) (ht : P.underlying t = some (.slice e)) (hi : P.info? e = some i) (hz : i.zero = some z) (hsize : i.size = k) (hby : i.bytes = bytes) (hzs : z.cells.size = k)
    (v : Value) (n : Nat) (xs : List Value) (hs : a.eval s = v) (hown : w.ownsRow base e k v n xs) (B : Nat) (A : Option Addr) (m c : Nat) (l : List α) (hx : a.eval x = .slice A m c) (hl : m = l.length) (hr : Els ec k w B A l)
    (hm : n + l.length ≤ maxLen) (hb : (n + l.length) * bytes ≤ 140737488355328) (hbase : base ≤ w.heap.size)
    (h : ∀ v' w', w'.ownsRow base e k v' (n + l.length) (xs ++ l.flatMap ec) → w.grownBy w' v.ownBlock → (v'.ownBlock = v.ownBlock ∨ v'.ownBlock = some w.heap.size) → wpList P ops Q rest (a.put o.dst v') w') :
    wpList P ops Q (o :: rest) a w :=
  wpList_plain hgd fun _ hK => wp_append_els k0 hk h1 w s x t ho base e i z bytes ht hi hz hsize hby hzs v n xs hs hown B A m c l hx hl hr hm hb hbase fun v' w' h2 h3 h4 => hK _ _ (h v' w' h2 h3 h4)
end

/-! ### Cuts -/
theorem sizeD_run (w : World) : (Go.sizeOf 33).run Tryz.prog w = .ok 3 w := by kernel_rfl
theorem cutD_to (W : World) (A : Option Addr) (n c k : Nat) (hk : k ≤ c) :
    (Instr.slice 24 (.slice A n c) none (some (.int .i64 (k : Int))) none).run Tryz.prog W = .ok (.slice A k c) W := by
  have ht' : Tryz.prog.underlying 24 = some (.slice (Tryz.prog.elem 24)) := by simp [Program.elem, Tryz.underlying24]
  have he : Tryz.prog.elem 24 = 33 := by simp [Program.elem, Tryz.underlying24]
  rw [run_slice_h W _ _ _ _ ht' .i64 _ (by omega) (by omega), he, sizeD_run]
  cases A <;> simp [Result.andThen, sliced, Addr.add]
theorem cutD_from (W : World) (A : Option Addr) (n c k : Nat) (hk : k ≤ n) :
    (Instr.slice 24 (.slice A n c) (some (.int .i64 (k : Int))) none none).run Tryz.prog W = .ok (.slice (if c = k then A else A.map (·.add (k * 3))) (n - k) (c - k)) W := by
  have ht' : Tryz.prog.underlying 24 = some (.slice (Tryz.prog.elem 24)) := by simp [Program.elem, Tryz.underlying24]
  have he : Tryz.prog.elem 24 = 33 := by simp [Program.elem, Tryz.underlying24]
  rw [run_slice_l W _ _ _ _ ht' .i64 _ (by omega) (by omega), he, sizeD_run]
  simp [Result.andThen, sliced]
theorem cutG_to (W : World) (A : Option Addr) (n c k : Nat) (hk : k ≤ c) :
    (Instr.slice 25 (.slice A n c) none (some (.int .i64 (k : Int))) none).run Tryz.prog W = .ok (.slice A k c) W := by
  have ht' : Tryz.prog.underlying 25 = some (.slice (Tryz.prog.elem 25)) := by simp [Program.elem, Tryz.underlying25]
  have he : Tryz.prog.elem 25 = 49 := by simp [Program.elem, Tryz.underlying25]
  rw [run_slice_h W _ _ _ _ ht' .i64 _ (by omega) (by omega), he, sizeS_run]
  cases A <;> simp [Result.andThen, sliced, Addr.add]

/-! ### All blocks but five -/
structure Kp (h : Nat) (a b : World) : Prop where
  os : b.os = a.os
  tape : b.tape = a.tape
  output : b.output = a.output
  size : a.heap.size ≤ b.heap.size
  block : ∀ i, i < a.heap.size → i < h ∨ h + 5 ≤ i → b.heap[i]? = a.heap[i]?
section
variable {h : Nat} {a b c : World}
theorem Kp.trans (x : Kp h a b) (y : Kp h b c) : Kp h a c :=
  ⟨y.os.trans x.os, y.tape.trans x.tape, y.output.trans x.output, Nat.le_trans x.size y.size, fun i hi hh => (y.block i (Nat.lt_of_lt_of_le hi x.size) hh).trans (x.block i hi hh)⟩
theorem Kp.of (x : Below a.heap.size a b) : Kp h a b := ⟨x.os, x.tape, x.output, x.size, fun i hi _ => x.block i hi⟩
theorem Kp.row (x : Kp h a b) {p : Nat} (h1 : h ≤ p) (h2 : p < h + 5) (cs : Array Value) : Kp h a (b.setRow p cs) :=
  ⟨x.os, x.tape, x.output, by rw [setRow_size]; exact x.size, fun i hi hh => (setRow_other b p i cs (by omega)).trans (x.block i hi hh)⟩
theorem Kp.cell (x : Kp h a b) {p : Nat} (h1 : h ≤ p) (h2 : p < h + 5) (j : Nat) (u : Value) : Kp h a (b.setCell ⟨p, j, none⟩ u) :=
  ⟨x.os, x.tape, x.output, by simpa [World.setCell] using x.size, fun i hi hh => (Below.heap_setCell b ⟨p, j, none⟩ u i (by show i ≠ p; omega)).trans (x.block i hi hh)⟩
theorem Kp.below (x : Kp h a b) (hh : h ≤ a.heap.size) : Below h a b := ⟨x.os, x.tape, x.output, x.size, fun i hi => x.block i (by omega) (.inl hi)⟩
end
/-- the five blocks that Do lays first, and the state's rows, which lie elsewhere -/
structure Five (w W : World) (z : SV) (v : Ev) (A : Option Addr) (n c : Nat) (C : Cm) : Prop where
  bel : Below w.heap.size w W
  x3 : Box W w.heap.size 27 z.arr
  v4 : Box W (w.heap.size + 1) 35 #[.int .i64 v.k, .int .i64 v.now, .int .i64 v.sg, .string v.nm, .int .i64 v.r.sg, .int .i64 v.r.sp, .bool v.r.un, .int .i64 v.r.tr, .bool v.r.good, .string v.dn, .int .i64 v.dl, .slice A n c]
  r6 : Box W (w.heap.size + 2) 27 #[.slice none 0 0, .slice none 0 0, .int .i64 0]
  r7 : Box W (w.heap.size + 3) 37 cm0.arr
  c9 : Box W (w.heap.size + 4) 37 C.arr
  sz : w.heap.size + 5 ≤ W.heap.size
  sin : ∀ U, Kp w.heap.size W U → SIn U z
section
variable {w W U : World} {x y z : SV} {v : Ev} {A : Option Addr} {n c : Nat} {C D : Cm}
theorem five_new (h : Four w W x v A n c) (hz : W.heap.size = w.heap.size + 4) (h6 : Box W (w.heap.size + 2) 27 #[.slice none 0 0, .slice none 0 0, .int .i64 0]) (hx : SIn w x) : Five w (W.alloc (.cells cm0.arr 37)) x v A n c cm0 := by
  have hb := below_al W (.cells cm0.arr 37)
  have h4 := h.on hb
  refine ⟨h4.bel, h4.x3, h4.v4, h6.below hb h6.lt, h4.c7, by have := Box.new W 37 cm0.arr; rw [hz] at this; exact this, by simp; omega, fun U hU => ?_⟩
  exact hx.on (h4.bel.trans (hU.below h4.bel.size))
theorem Five.on (h : Five w W z v A n c C) (hb : Below W.heap.size W U) : Five w U z v A n c C :=
  ⟨h.bel.trans (hb.mono h.bel.size), h.x3.below hb h.x3.lt, h.v4.below hb h.v4.lt, h.r6.below hb h.r6.lt, h.r7.below hb h.r7.lt, h.c9.below hb h.c9.lt, Nat.le_trans h.sz hb.size, fun V hV => h.sin V ((Kp.of hb).trans hV)⟩
theorem Five.drew (h : Five w W z v A n c C) : Five w W.drew z v A n c C := h.on (Below.drew (Below.refl _ _))
theorem Five.here (h : Five w W z v A n c C) : SIn W z := h.sin W (Kp.of (Below.refl _ _))
theorem Five.cells (h : Five w W z v A n c C) : W.cell? ⟨w.heap.size, 0, none⟩ = some (.slice z.AD z.nD z.cD) ∧ W.cell? ⟨w.heap.size, 1, none⟩ = some (.slice z.AS z.nS z.cS) ∧ W.cell? ⟨w.heap.size, 2, none⟩ = some (.int .i64 z.nx) := ⟨h.x3.cell 0, h.x3.cell 1, h.x3.cell 2⟩
/-- the end: the results' blocks written -/
theorem five_end (h : Five w W z v A n c C) : Box ((W.setRow (w.heap.size + 2) z.arr).setRow (w.heap.size + 3) C.arr) (w.heap.size + 2) 27 z.arr ∧ Box ((W.setRow (w.heap.size + 2) z.arr).setRow (w.heap.size + 3) C.arr) (w.heap.size + 3) 37 C.arr ∧
    SIn ((W.setRow (w.heap.size + 2) z.arr).setRow (w.heap.size + 3) C.arr) z ∧ Below w.heap.size w ((W.setRow (w.heap.size + 2) z.arr).setRow (w.heap.size + 3) C.arr) := by
  have hk : Kp w.heap.size W ((W.setRow (w.heap.size + 2) z.arr).setRow (w.heap.size + 3) C.arr) := ((Kp.of (Below.refl _ _)).row (by omega) (by omega) _).row (by omega) (by omega) _
  exact ⟨Sa.box_far (Sa.box_row h.r6 _) (by omega) _, Sa.box_row (Sa.box_far h.r7 (by omega) _) _, h.sin _ hk, h.bel.trans (hk.below h.bel.size)⟩
/-- another command in its block -/
theorem Five.cmd (h : Five w W z v A n c C) (D : Cm) : Five w (W.setRow (w.heap.size + 4) D.arr) z v A n c D :=
  ⟨Sa.below_row h.bel (by omega) _, Sa.box_far h.x3 (by omega) _, Sa.box_far h.v4 (by omega) _, Sa.box_far h.r6 (by omega) _, Sa.box_far h.r7 (by omega) _, Sa.box_row h.c9 _, by rw [setRow_size]; exact h.sz, fun V hV => h.sin V (((Kp.of (Below.refl _ _)).row (by omega) (by omega) _).trans hV)⟩
end
/-- a row of sagas of one's own, in the place of the state's -/
def SV.sag (x : SV) (A : Option Addr) (n c : Nat) (gs : List Sg) : SV := ⟨x.AD, x.nD, x.cD, A, n, c, x.nx, x.dx, gs⟩
def SV.des (x : SV) (A : Option Addr) (n c : Nat) (dx : List DX) : SV := ⟨A, n, c, x.AS, x.nS, x.cS, x.nx, dx, x.gs⟩
section
variable {w W U : World} {x : SV} {v : Ev} {A A' : Option Addr} {n c n' c' : Nat} {C : Cm} {gs : List Sg} {dx : List DX}
theorem kp_own {w W U : World} {base : Nat} {e : TypeId} {k n : Nat} {v : Value} {xs : List Value} (h : W.ownsRow base e k v n xs) (hb : w.heap.size + 5 ≤ base) (hU : Kp w.heap.size W U) : U.ownsRow base e k v n xs :=
  own_stay h fun i hi => hU.block i (own_blk h hi).2.choose_spec.lt (.inr (by have := (own_blk h hi).1; omega))
theorem Five.sag (h : Five w W x v A n c C) (hn : n' = gs.length) (ho : W.ownsRow (w.heap.size + 5) 49 9 (.slice A' n' c') n' (gs.flatMap sgc)) :
    Five w (W.setCell ⟨w.heap.size, 1, none⟩ (.slice A' n' c')) (x.sag A' n' c' gs) v A n c C := by
  have hk : Kp w.heap.size W (W.setCell ⟨w.heap.size, 1, none⟩ (.slice A' n' c')) := (Kp.of (Below.refl _ _)).cell (by omega) (by omega) _ _
  refine ⟨h.bel.trans (hk.below h.bel.size), (by have := h.x3.put 1 (.slice A' n' c'); exact this), h.v4.far (by show w.heap.size + 1 ≠ w.heap.size; omega) _, h.r6.far (by show w.heap.size + 2 ≠ w.heap.size; omega) _, h.r7.far (by show w.heap.size + 3 ≠ w.heap.size; omega) _, h.c9.far (by show w.heap.size + 4 ≠ w.heap.size; omega) _, Nat.le_trans h.sz hk.size, fun U hU => ?_⟩
  have hx := h.sin U (hk.trans hU)
  have hw := kp_own ho (Nat.le_refl _) (hk.trans hU)
  exact ⟨hx.lD, hx.cD, hx.hD, hx.each, hx.zD, hn, (own_cap hw).1, els_own (by decide) sg_len hw, fun e => by have := hw; rw [show A' = none from e] at this; exact own_none this⟩
theorem Five.des (h : Five w W x v A n c C) (hn : n' = dx.length) (ho : W.ownsRow (w.heap.size + 5) 33 3 (.slice A' n' c') n' (dx.flatMap DX.cells)) (he : ∀ d ∈ dx, DIn w d) :
    Five w (W.setCell ⟨w.heap.size, 0, none⟩ (.slice A' n' c')) (x.des A' n' c' dx) v A n c C := by
  have hk : Kp w.heap.size W (W.setCell ⟨w.heap.size, 0, none⟩ (.slice A' n' c')) := (Kp.of (Below.refl _ _)).cell (by omega) (by omega) _ _
  refine ⟨h.bel.trans (hk.below h.bel.size), (by have := h.x3.put 0 (.slice A' n' c'); exact this), h.v4.far (by show w.heap.size + 1 ≠ w.heap.size; omega) _, h.r6.far (by show w.heap.size + 2 ≠ w.heap.size; omega) _, h.r7.far (by show w.heap.size + 3 ≠ w.heap.size; omega) _, h.c9.far (by show w.heap.size + 4 ≠ w.heap.size; omega) _, Nat.le_trans h.sz hk.size, fun U hU => ?_⟩
  have hx' := h.sin U (hk.trans hU)
  have hw := kp_own ho (Nat.le_refl _) (hk.trans hU)
  have hb : Below w.heap.size w U := h.bel.trans ((hk.trans hU).below h.bel.size)
  exact ⟨hn, (own_cap hw).1, els_own (by decide) dx_len hw, fun d hd => (he d hd).on hb, fun e => by have := hw; rw [show A' = none from e] at this; exact own_none this, hx'.lS, hx'.cS, hx'.hS, hx'.zS⟩
theorem Five.nxt (h : Five w W x v A n c C) (t : Int) : Five w (W.setCell ⟨w.heap.size, 2, none⟩ (.int .i64 t)) ⟨x.AD, x.nD, x.cD, x.AS, x.nS, x.cS, t, x.dx, x.gs⟩ v A n c C := by
  have hk : Kp w.heap.size W (W.setCell ⟨w.heap.size, 2, none⟩ (.int .i64 t)) := (Kp.of (Below.refl _ _)).cell (by omega) (by omega) _ _
  refine ⟨h.bel.trans (hk.below h.bel.size), (by have := h.x3.put 2 (.int .i64 t); exact this), h.v4.far (by show w.heap.size + 1 ≠ w.heap.size; omega) _, h.r6.far (by show w.heap.size + 2 ≠ w.heap.size; omega) _, h.r7.far (by show w.heap.size + 3 ≠ w.heap.size; omega) _, h.c9.far (by show w.heap.size + 4 ≠ w.heap.size; omega) _, Nat.le_trans h.sz hk.size, fun U hU => ?_⟩
  have hx' := h.sin U (hk.trans hU)
  exact ⟨hx'.lD, hx'.cD, hx'.hD, hx'.each, hx'.zD, hx'.lS, hx'.cS, hx'.hS, hx'.zS⟩
end
/-! ### Rows of one, of none -/
section
variable {w w' : World} {row : Option Nat}
theorem lit_own {e : TypeId} {k : Nat} (base : Nat) (w : World) (q : Nat) (hq : q = w.heap.size) (hb : base ≤ q) : (w.alloc (.cells #[] e)).ownsRow base e k (.slice (some ⟨q, 0, none⟩) 0 0) 0 [] := by
  subst hq
  exact World.ownsRow_lit w #[] 0 hb (by omega) (by simp)
theorem one_dx (w : World) (q : Nat) (hq : q = w.heap.size) (d : DX) : Els DX.cells 3 (w.alloc (.cells #[.string d.nm, .int .i64 d.dl, .slice d.A d.n d.c] 33)) (q + 1) (some ⟨q, 0, none⟩) [d] := fun i a ha => by
  subst hq
  have hi := at_lt ha
  simp only [List.length_cons, List.length_nil] at hi
  obtain rfl : i = 0 := by omega
  injection ha with ha
  subst ha
  refine ⟨w.heap.size, 0, rfl, by omega, fun j u hu => ?_⟩
  rw [Nat.zero_mul, Nat.zero_add, (Box.new w 33 #[.string d.nm, .int .i64 d.dl, .slice d.A d.n d.c]).cell j]
  simpa [DX.cells] using hu
theorem one_sg (w : World) (q : Nat) (hq : q = w.heap.size) (d : Sg) : Els sgc 9 (w.alloc (.cells d.arr 49)) (q + 1) (some ⟨q, 0, none⟩) [d] := fun i a ha => by
  subst hq
  have hi := at_lt ha
  simp only [List.length_cons, List.length_nil] at hi
  obtain rfl : i = 0 := by omega
  injection ha with ha
  subst ha
  refine ⟨w.heap.size, 0, rfl, by omega, fun j u hu => ?_⟩
  rw [Nat.zero_mul, Nat.zero_add, (Box.new w 49 d.arr).cell j]
  have : d.arr = (sgc d).toArray := rfl
  rw [this]
  simpa using hu
theorem one_grown {α : Type} {ec : α → List Value} {k B q : Nat} {l : List α} (h : Els ec k w B (some ⟨q, 0, none⟩) l) (hg : w.grownBy w' row) (hq : q < w.heap.size) (hne : row ≠ some q) : Els ec k w' B (some ⟨q, 0, none⟩) l := fun i a ha => by
  obtain ⟨b, o, e, hlt, hc⟩ := h i a ha
  injection e with e
  injection e with e1 e2
  subst e1 e2
  exact ⟨q, 0, rfl, hlt, fun j u hu => (World.cell?_of_block (hg.block q hq (Ne.symm hne))).trans (hc j u hu)⟩
end
/-! ### A row of one saga, made -/
theorem fill_saga (s : Sg) : Instr.fill (fun i => some (i * 9, 9)) ((Array.range (1 * 9)).map (zeroS.cells[· % zeroS.cells.size]!)) [(0, Value.agg s.arr)] = some s.arr := by kernel_rfl
set_option maxRecDepth 100000 in
theorem run_build_saga (w : World) (s : Sg) : (Instr.buildSlice 25 1 #[(0, .agg s.arr)]).run Tryz.prog w = .ok (.slice (some ⟨w.heap.size, 0, none⟩) 1 1) (w.alloc (.cells s.arr 49)) := by
  obtain ⟨i0, hi0, hz0, hz1, hz2⟩ := info_of infoS
  refine run_buildSlice w _ _ 1 _ _ i0 zeroS Tryz.underlying25 hi0 hz0 (by rw [hz1]; decide) (by rw [hz1]; decide) ?_
  rw [hz1]
  exact fill_saga s
section
variable {ops : Array Oper}
theorem step_build_saga (w : World) (s : Sg) (q : Nat) (hq : w.heap.size = q) {o : Oper} {a : Act} {K : Act → World → Prop} {Q : Exit → Act → World → Prop} {E : Prop} (hgd : o.guard = none) (x : Operand)
    (ho : o.op = .buildSlice 25 1 #[(0, x)]) (hx : a.eval x = .agg s.arr)
    (h : K (a.put o.dst (.slice (some ⟨q, 0, none⟩) 1 1)) (w.alloc (.cells s.arr 49))) :
    if Region.wanted o (yielded ops a.tmps) = true then Oper.wp Tryz.prog o a w K Q else E := by
  subst hq
  have hw : Region.wanted o (yielded ops a.tmps) = true := by simp [Region.wanted, hgd]
  rw [if_pos hw]
  unfold Oper.wp execOp
  simp only [ho, Sem.run_bind, List.map_toArray, List.map_cons, List.map_nil, hx, run_build_saga w s, Result.andThen_ok]
  exact h
end
/-! ### A saga put into a copy of a row -/
set_option maxHeartbeats 4000000 in
set_option maxRecDepth 100000 in
theorem rwith_any (A : Option Addr) (n c : Nat) (gs : List Sg) (i : Nat) (s : Sg) (w : World) (hE : Els sgc 9 w w.heap.size A gs) (hn : n = gs.length) (hb : n ≤ 1000000000) (hi : i < n) :
    Calls Tryz.prog 29 #[.slice A n c, .int .i64 (i : Int), .agg s.arr] w fun e w' => ∃ (A' : Option Addr) (c' : Nat), e = .returned (.slice A' n c') ∧ w'.ownsRow w.heap.size 49 9 (.slice A' n c') n ((gs.set i s).flatMap sgc) ∧ Below w.heap.size w w' := by
  have HX := Lib.hid (Box.new w 49 s.arr)
  have hB0 := below_al w (.cells s.arr 49)
  have hz0 : (w.alloc (.cells s.arr 49)).heap.size = w.heap.size + 1 := by simp
  have HE := Lib.hid (hE.on hB0)
  have HB := Lib.hid hB0
  have HZ := Lib.hid hz0
  have HN := Lib.hid hn
  obtain ⟨i0, hi0, hz1, hz2, hz3⟩ := info_of infoS
  clear hE hn hB0 hz0
  go_enter Tryz.func29, Tryz.ntmps29
  go_upto_region 1 with fail
  generalize w.alloc (.cells s.arr 49) = W0 at *
  go_upto_region 2 with (at_builtin; refine wpList_append_els (by decide) sg_len sg_one _ rfl (.tmp 8) (.tmp 9) 25 rfl w.heap.size 49 i0 zeroS 80 Tryz.underlying25 hi0 hz1 hz2 hz3 rfl _ 0 _ rfl (lit_own w.heap.size W0 W0.heap.size rfl HB.out.size) _ A n c gs rfl HN.out (HE.out.below (below_al W0 (.cells #[] 49))) (by unfold maxLen; have := HN.out; omega) (by have := HN.out; omega) (Nat.le_trans HB.out.size (by simp)) ?_; intro v1 w1 hown1 hg1 hat1)
  have hown2 : w1.ownsRow w.heap.size 49 9 v1 n (gs.flatMap sgc) := by
    have h1 := hown1
    rw [← HN.out, Nat.zero_add] at h1
    simpa using h1
  have hl0 := HX.out.lt
  have hX1 : Box w1 w.heap.size 49 s.arr := (HX.out.alloc (.cells #[] 49)).grown hg1 (fun e => by first | (have e' : W0.heap.size = w.heap.size := Option.some.inj e; omega) | (have e' : w.heap.size = W0.heap.size := Option.some.inj e; omega))
  have hB1 : Below w.heap.size w w1 := (HB.out.alloc HB.out.size (.cells #[] 49)).grown hg1 (Nat.le_trans HB.out.size (by simp)) (fun j hj => ((lit_own (e := 49) (k := 9) w.heap.size W0 W0.heap.size rfl HB.out.size).lt j hj).1)
  obtain ⟨A1, c1, rfl⟩ := own_form hown2
  obtain ⟨g, cur, rfl, hg, hbox, hsz, htk⟩ := own_at hown2 (by omega)
  clear hown1 hg1 hat1 htk
  have HO := Lib.hid hown2
  have HB1 := Lib.hid hB1
  have HBX := Lib.hid hbox
  have hfit : i * 9 + s.arr.size ≤ cur.size := by
    rw [hsz]
    have h1 := (own_cap hown2).1
    show i * 9 + 9 ≤ c1 * 9
    omega
  have HF := Lib.hid hfit
  obtain ⟨x0, x1, x2, x3, x4, x5, x6, x7, x8⟩ : w1.cell? ⟨w.heap.size, 0, none⟩ = some (.int .i64 s.id) ∧ w1.cell? ⟨w.heap.size, 1, none⟩ = some (.string s.dn) ∧ w1.cell? ⟨w.heap.size, 2, none⟩ = some (.int .i64 s.st) ∧ w1.cell? ⟨w.heap.size, 3, none⟩ = some (.int .i64 s.ph) ∧ w1.cell? ⟨w.heap.size, 4, none⟩ = some (.int .i64 s.sp) ∧ w1.cell? ⟨w.heap.size, 5, none⟩ = some (.int .i64 s.tr) ∧ w1.cell? ⟨w.heap.size, 6, none⟩ = some (.bool s.out) ∧ w1.cell? ⟨w.heap.size, 7, none⟩ = some (.int .i64 s.at_) ∧ w1.cell? ⟨w.heap.size, 8, none⟩ = some (.int .i64 s.sk) := ⟨hX1.cell 0, hX1.cell 1, hX1.cell 2, hX1.cell 3, hX1.cell 4, hX1.cell 5, hX1.cell 6, hX1.cell 7, hX1.cell 8⟩
  have hin : (i : Int) < (n : Int) := by omega
  clear hown2 hB1 hbox hfit hX1 hsz
  go_wp2_with (refine wpList_store_mid rfl 49 _ _ rfl g (i * 9) 49 cur s.arr rfl rfl HBX.out (Sa.sizeG _) HF.out (Sa.oneG _) ?_)
  go_ret
  refine ⟨_, _, rfl, own_put sg_len HO.out HBX.out (by rw [← HN.out]; exact hi) HN.out.symm, Sa.below_row HB1.out hg _⟩
end Go.Proofs.YteejocnogpaifaaGreatDoor.Tt
