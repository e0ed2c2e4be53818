/-
  The memory of states: definitions and sagas in rows, a state by value, a state in a block and rows of its own; what a writing call leaves as it was.
  Conditions: none.
-/
import Derived.Test.YteejocnogpaifaaGreatDoorStaMath
import Derived.Test.YteejocnogpaifaaGreatDoorDefOwn
import Derived.Test.YteejocnogpaifaaGreatDoorMrg2
import Derived.Test.YteejocnogpaifaaGreatDoorSagGood
import Derived.Laws.CopyRow
import Derived.Laws.OwnMore
namespace Go.Proofs.YteejocnogpaifaaGreatDoor.Tt
open Go.RowKit
open Go.Proofs.YteejocnogpaifaaGreatDoor.El
open Go.Proofs.YteejocnogpaifaaGreatDoor.Df
open Go.Proofs.YteejocnogpaifaaGreatDoor.Bo (P Made)
open Go.Proofs.YteejocnogpaifaaGreatDoor.Sa (Sg Cm Rp Ac Dn)
open Go.Proofs.YteejocnogpaifaaGreatDoor.Co (Ev Mod)

/-! ### Rows of structs of k cells -/
section
variable {α : Type} {ec : α → List Value} {k : Nat}
theorem flat_len (hk : ∀ a, (ec a).length = k) (l : List α) : (l.flatMap ec).length = l.length * k := by
  induction l with
  | nil => simp
  | cons x r ih =>
    rw [List.flatMap_cons, List.length_append, ih, hk, List.length_cons, Nat.succ_mul]
    omega
theorem flat_get (hk : ∀ a, (ec a).length = k) (l : List α) (i j : Nat) (hj : j < k) : (l.flatMap ec)[i * k + j]? = match l[i]? with | none => none | some x => (ec x)[j]? := by
  induction l generalizing i with
  | nil => simp
  | cons x r ih =>
    rw [List.flatMap_cons]
    cases i with
    | zero =>
      rw [List.getElem?_append_left (by rw [hk]; omega)]
      simp
    | succ i =>
      have e : (i + 1) * k + j - k = i * k + j := by rw [Nat.succ_mul]; omega
      rw [List.getElem?_append_right (by rw [hk, Nat.succ_mul]; omega), hk, e, ih i]
      simp
theorem flat_take (hk : ∀ a, (ec a).length = k) (l : List α) (i : Nat) : (l.flatMap ec).take (i * k) = (l.take i).flatMap ec := by
  induction l generalizing i with
  | nil => simp
  | cons x r ih =>
    cases i with
    | zero => simp
    | succ i =>
      rw [List.flatMap_cons, List.take_succ_cons, List.flatMap_cons, ← ih i]
      have e : (i + 1) * k = (ec x).length + i * k := by rw [hk, Nat.succ_mul]; omega
      rw [e, List.take_length_add_append]
theorem flat_drop (hk : ∀ a, (ec a).length = k) (l : List α) (i : Nat) : (l.flatMap ec).drop (i * k) = (l.drop i).flatMap ec := by
  induction l generalizing i with
  | nil => simp
  | cons x r ih =>
    cases i with
    | zero => simp
    | succ i =>
      rw [List.flatMap_cons, List.drop_succ_cons, ← ih i]
      have e : (i + 1) * k = (ec x).length + i * k := by rw [hk, Nat.succ_mul]; omega
      rw [e, List.drop_length_add_append]
theorem flat_one (h1 : ∀ a, ∀ u ∈ ec a, u.oneCell' = true) (l : List α) : ∀ u ∈ l.flatMap ec, u.oneCell' = true := by
  intro u hu
  obtain ⟨x, _, hx⟩ := List.mem_flatMap.1 hu
  exact h1 x u hx
variable {w w' : World} {base n c : Nat} {A : Option Addr} {e : TypeId} {l : List α}
theorem els_cells {a : Addr} {B : Nat} (k0 : 0 < k) (hk : ∀ a, (ec a).length = k) (h : Els ec k w B (some a) l) : ∀ j u, (l.flatMap ec)[j]? = some u → w.cell? (a.add j) = some u := by
  intro j u hu
  have hd : j / k * k + j % k = j := by rw [Nat.mul_comm]; exact Nat.div_add_mod j k
  rw [← hd, flat_get hk l _ _ (Nat.mod_lt _ k0)] at hu
  cases hs : l[j / k]? with
  | none => rw [hs] at hu; cases hu
  | some s =>
    rw [hs] at hu
    obtain ⟨b, o, e, _, hc⟩ := h _ _ hs
    injection e with e
    subst e
    have := hc (j % k) u hu
    rw [Addr.add_lit, show o + j = o + j / k * k + j % k by omega]
    exact this
theorem els_own (k0 : 0 < k) (hk : ∀ a, (ec a).length = k) (h : w.ownsRow base e k (.slice A n c) n (l.flatMap ec)) : Els ec k w w.heap.size A l := fun i s hs => by
  have hi := at_lt hs
  have hl := h.1
  rw [flat_len hk] at hl
  have hln : l.length = n := Nat.eq_of_mul_eq_mul_right k0 hl
  rcases h.2 with ⟨_, h0⟩ | ⟨g, cap, cur, h1, _, hg, _⟩
  · omega
  · injection h1 with h1 _ _
    subst h1
    refine ⟨g, 0, rfl, (Array.getElem?_eq_some_iff.1 hg).1, fun j u hu => ?_⟩
    have hj : j < k := by have := at_lt hu; rw [hk] at this; exact this
    have := h.cells (g := g) rfl (i * k + j) u (by rw [flat_get hk l i j hj, hs]; exact hu)
    rw [Addr.add_lit] at this
    rw [Nat.zero_add] at this ⊢
    exact this
theorem own_none {xs : List Value} (h : w.ownsRow base e k (.slice none n c) n xs) : n = 0 ∧ c = 0 := by
  rcases h.2 with ⟨h1, h2⟩ | ⟨g, cap, cur, h1, _⟩
  · injection h1 with _ h3 h4
    exact ⟨h2, h4⟩
  · injection h1 with h1; cases h1
theorem own_cap {xs : List Value} (h : w.ownsRow base e k (.slice A n c) n xs) : n ≤ c ∧ c ≤ maxLen := by
  rcases h.2 with ⟨h1, h2⟩ | ⟨g, cap, cur, h1, _, _, h2, h3, _⟩
  · injection h1 with _ h3 h4
    exact ⟨by omega, by omega⟩
  · injection h1 with _ _ h4
    exact ⟨by omega, by omega⟩
theorem own_at {xs : List Value} (h : w.ownsRow base e k (.slice A n c) n xs) (hn : 0 < n) : ∃ g cur, A = some ⟨g, 0, none⟩ ∧ base ≤ g ∧ Box w g e cur ∧ cur.size = c * k ∧ cur.toList.take (n * k) = xs := by
  rcases h.2 with ⟨h1, h2⟩ | ⟨g, cap, cur, h1, h2, h3, h4, h5, h6, h7⟩
  · omega
  · injection h1 with h8 _ h9
    subst h9
    exact ⟨g, cur, h8, h2, h3, h6, h7⟩
theorem own_stay {v : Value} {xs : List Value} (h : w.ownsRow base e k v n xs) (hb : ∀ i, v.ownBlock = some i → w'.heap[i]? = w.heap[i]?) : w'.ownsRow base e k v n xs := by
  obtain ⟨h1, h2⟩ := h
  refine ⟨h1, h2.imp id ?_⟩
  rintro ⟨q, c, cur, rfl, hq, hh, rest⟩
  exact ⟨q, c, cur, rfl, hq, (hb q rfl).trans hh, rest⟩
theorem own_blk {v : Value} {i : Nat} {xs : List Value} (h : w.ownsRow base e k v n xs) (hi : v.ownBlock = some i) : base ≤ i ∧ ∃ cur, Box w i e cur := by
  rcases h.2 with ⟨rfl, _⟩ | ⟨g, c, cur, rfl, hb, hg, _⟩
  · simp [Value.ownBlock] at hi
  · simp only [Value.ownBlock, Option.some.injEq] at hi
    subst hi
    exact ⟨hb, cur, hg⟩
theorem own_low {v : Value} {xs : List Value} {base' : Nat} (h : w.ownsRow base e k v n xs) (hb : base' ≤ base) : w.ownsRow base' e k v n xs := by
  obtain ⟨h1, h2⟩ := h
  refine ⟨h1, h2.imp id ?_⟩
  rintro ⟨q, c, cur, rfl, hq, rest⟩
  exact ⟨q, c, cur, rfl, Nat.le_trans hb hq, rest⟩
/-- cells written over in a row -/
def spl (cur : Array Value) (o : Nat) (vs : List Value) : Array Value := (cur.toList.take o ++ vs ++ cur.toList.drop (o + vs.length)).toArray
theorem spl_size {cur : Array Value} {o : Nat} {vs : List Value} (h : o + vs.length ≤ cur.size) : (spl cur o vs).size = cur.size := by
  unfold spl
  simp only [List.size_toArray, List.length_append, List.length_take, List.length_drop, Array.length_toList]
  omega
theorem spl_take {L vs : List Value} {o N : Nat} (h1 : o + vs.length ≤ N) (h2 : N ≤ L.length) : (L.take o ++ vs ++ L.drop (o + vs.length)).take N = (L.take N).take o ++ vs ++ (L.take N).drop (o + vs.length) := by
  have hlen : (L.take o ++ vs).length = o + vs.length := by rw [List.length_append, List.length_take]; omega
  rw [List.take_append, List.take_of_length_le (by omega), hlen, List.take_take, Nat.min_eq_left (by omega), List.drop_take]
/-- one element of a row of one's own written over -/
theorem own_put {g i : Nat} {a : α} {cur : Array Value} (hk : ∀ a, (ec a).length = k) (h : w.ownsRow base e k (.slice (some ⟨g, 0, none⟩) n c) n (l.flatMap ec)) (hc : Box w g e cur) (hi : i < l.length) (hn : l.length = n) :
    (w.setRow g (spl cur (i * k) (ec a))).ownsRow base e k (.slice (some ⟨g, 0, none⟩) n c) n ((l.set i a).flatMap ec) := by
  obtain ⟨h1, h2⟩ := h
  rcases h2 with ⟨h3, _⟩ | ⟨g', cap, cur', hv, hg, hh, hcp, hm, hs, ht⟩
  · cases h3
  · injection hv with hv1 hv2 hv3
    injection hv1 with hv1
    injection hv1 with hv1
    subst hv1 hv3
    have he : cur' = cur := by
      have := Option.some.inj (Eq.trans (Eq.symm hh) hc)
      injection this
    subst he
    have hik : i * k + k ≤ n * k := by rw [← Nat.succ_mul]; exact Nat.mul_le_mul_right _ (by omega)
    have hnk : n * k ≤ cur'.size := by rw [hs]; exact Nat.mul_le_mul_right _ hcp
    have hfit : i * k + (ec a).length ≤ cur'.size := by rw [hk]; omega
    refine ⟨by rw [flat_len hk, List.length_set, hn], .inr ⟨g, c, _, rfl, hg, setRow_heap w g cur' _ e _ hh, hcp, hm, by rw [spl_size hfit, hs], ?_⟩⟩
    have hset : l.set i a = l.take i ++ a :: l.drop (i + 1) := List.set_eq_take_append_cons_drop.trans (by rw [if_pos hi])
    rw [hset, List.flatMap_append, List.flatMap_cons, ← flat_take hk, ← flat_drop hk, ← ht]
    have hl : cur'.toList.length = cur'.size := Array.length_toList
    show (cur'.toList.take (i * k) ++ ec a ++ cur'.toList.drop (i * k + (ec a).length)).take (n * k) = _
    rw [spl_take (by rw [hk]; omega) (by omega), hk, Nat.succ_mul, List.append_assoc]
end

/-! ### A state's rows -/
/-- a definition, and where its steps lie -/
structure DX where
  nm : ByteArray
  dl : Int
  ss : List Stp
  A : Option Addr
  n : Nat
  c : Nat
def DX.m (x : DX) : Dm := ⟨x.nm, x.dl, x.ss⟩
def DX.cells (x : DX) : List Value := [.string x.nm, .int .i64 x.dl, .slice x.A x.n x.c]
def sgc (s : Sg) : List Value := [.int .i64 s.id, .string s.dn, .int .i64 s.st, .int .i64 s.ph, .int .i64 s.sp, .int .i64 s.tr, .bool s.out, .int .i64 s.at_, .int .i64 s.sk]
theorem dx_len (x : DX) : x.cells.length = 3 := rfl
theorem sg_len (s : Sg) : (sgc s).length = 9 := rfl
theorem dx_one (x : DX) : ∀ u ∈ x.cells, u.oneCell' = true := by
  intro u hu
  simp only [DX.cells, List.mem_cons, List.not_mem_nil, or_false] at hu
  rcases hu with rfl | rfl | rfl <;> rfl
theorem sg_one (s : Sg) : ∀ u ∈ sgc s, u.oneCell' = true := by
  intro u hu
  simp only [sgc, List.mem_cons, List.not_mem_nil, or_false] at hu
  rcases hu with rfl | rfl | rfl | rfl | rfl | rfl | rfl | rfl | rfl <;> rfl
/-- a definition's steps lie in memory -/
structure DIn (w : World) (x : DX) : Prop where
  en : x.n = x.ss.length
  cap : x.n ≤ x.c
  mod : Mod x.nm x.ss
  mem : Df.Steps w w.heap.size x.A x.ss
  nil : x.A = none → x.n = 0 ∧ x.c = 0
/-- a state by value -/
structure SV where
  AD : Option Addr
  nD : Nat
  cD : Nat
  AS : Option Addr
  nS : Nat
  cS : Nat
  nx : Int
  dx : List DX
  gs : List Sg
def SV.st (x : SV) : Ms := ⟨x.dx.map DX.m, x.gs, x.nx⟩
def SV.arr (x : SV) : Array Value := #[.slice x.AD x.nD x.cD, .slice x.AS x.nS x.cS, .int .i64 x.nx]
/-- it lies in memory -/
structure SIn (w : World) (x : SV) : Prop where
  lD : x.nD = x.dx.length
  cD : x.nD ≤ x.cD
  hD : Els DX.cells 3 w w.heap.size x.AD x.dx
  each : ∀ d ∈ x.dx, DIn w d
  zD : x.AD = none → x.nD = 0 ∧ x.cD = 0
  lS : x.nS = x.gs.length
  cS : x.nS ≤ x.cS
  hS : Els sgc 9 w w.heap.size x.AS x.gs
  zS : x.AS = none → x.nS = 0 ∧ x.cS = 0
/-- it lies in rows of its own, from block R on -/
structure SOwn (w : World) (R : Nat) (x : SV) : Prop where
  lD : x.nD = x.dx.length
  lS : x.nS = x.gs.length
  oD : w.ownsRow R 33 3 (.slice x.AD x.nD x.cD) x.nD (x.dx.flatMap DX.cells)
  oS : w.ownsRow R 49 9 (.slice x.AS x.nS x.cS) x.nS (x.gs.flatMap sgc)
  oT : ∀ d ∈ x.dx, d.n = d.ss.length ∧ Mod d.nm d.ss ∧ w.ownsRow R 54 12 (.slice d.A d.n d.c) d.n (cellsS d.ss)
section
variable {w w' : World} {x : SV} {d : DX} {R : Nat}
theorem DIn.on (h : DIn w d) (hb : Below w.heap.size w w') : DIn w' d := ⟨h.en, h.cap, h.mod, h.mem.on hb, h.nil⟩
theorem DIn.dn (h : DIn w d) (ht : Df.Tab w) : Dn w d.nm d.A d.n d.c d.ss := ⟨h.en, by rw [h.en]; have := h.mod.2.1; omega, h.cap, h.mem, h.mod.1, h.mod.2.2, ht⟩
theorem SIn.on (h : SIn w x) (hb : Below w.heap.size w w') : SIn w' x := ⟨h.lD, h.cD, h.hD.on hb, fun d hd => (h.each d hd).on hb, h.zD, h.lS, h.cS, h.hS.on hb, h.zS⟩
theorem own_din (h1 : d.n = d.ss.length) (h2 : Mod d.nm d.ss) (h3 : w.ownsRow R 54 12 (.slice d.A d.n d.c) d.n (cellsS d.ss)) : DIn w d :=
  ⟨h1, (own_cap h3).1, h2, steps_own h3, fun e => by rw [e] at h3; exact own_none h3⟩
theorem SOwn.sin (h : SOwn w R x) : SIn w x :=
  ⟨h.lD, (own_cap h.oD).1, els_own (by decide) dx_len h.oD, fun d hd => own_din (h.oT d hd).1 (h.oT d hd).2.1 (h.oT d hd).2.2, fun e => by have := h.oD; rw [e] at this; exact own_none this, h.lS, (own_cap h.oS).1, els_own (by decide) sg_len h.oS, fun e => by have := h.oS; rw [e] at this; exact own_none this⟩
theorem SOwn.stay (h : SOwn w R x) (hb : ∀ i, R ≤ i → i < w.heap.size → w'.heap[i]? = w.heap[i]?) : SOwn w' R x :=
  ⟨h.lD, h.lS, own_stay h.oD fun i hi => hb i (own_blk h.oD hi).1 (own_blk h.oD hi).2.choose_spec.lt, own_stay h.oS fun i hi => hb i (own_blk h.oS hi).1 (own_blk h.oS hi).2.choose_spec.lt, fun d hd => ⟨(h.oT d hd).1, (h.oT d hd).2.1, own_stay (h.oT d hd).2.2 fun i hi => hb i (own_blk (h.oT d hd).2.2 hi).1 (own_blk (h.oT d hd).2.2 hi).2.choose_spec.lt⟩⟩
theorem SOwn.below (h : SOwn w R x) (hb : Below w.heap.size w w') : SOwn w' R x := h.stay fun i _ hi => hb.block i hi
theorem SOwn.low {R' : Nat} (h : SOwn w R x) (hR : R' ≤ R) : SOwn w R' x := ⟨h.lD, h.lS, own_low h.oD hR, own_low h.oS hR, fun d hd => ⟨(h.oT d hd).1, (h.oT d hd).2.1, own_low (h.oT d hd).2.2 hR⟩⟩
end

/-! ### What a writing call leaves as it was -/
/-- all blocks ahead of R stay, but for g -/
structure Foot (g R : Nat) (w w' : World) : Prop where
  os : w'.os = w.os
  tape : w'.tape = w.tape
  output : w'.output = w.output
  size : w.heap.size ≤ w'.heap.size
  block : ∀ i, i < R → i ≠ g → w'.heap[i]? = w.heap[i]?
section
variable {g R : Nat} {a b c : World}
theorem Foot.refl (g R : Nat) (w : World) : Foot g R w w := ⟨rfl, rfl, rfl, Nat.le_refl _, fun _ _ _ => rfl⟩
theorem Foot.trans (h : Foot g R a b) (k : Foot g R b c) : Foot g R a c :=
  ⟨k.os.trans h.os, k.tape.trans h.tape, k.output.trans h.output, Nat.le_trans h.size k.size, fun i hi hg => (k.block i hi hg).trans (h.block i hi hg)⟩
theorem Foot.of_below {B : Nat} (h : Below B a b) (hB : R ≤ B) : Foot g R a b := ⟨h.os, h.tape, h.output, h.size, fun i hi _ => h.block i (by omega)⟩
theorem Foot.of_grown {row : Option Nat} (h : a.grownBy b row) (hR : R ≤ a.heap.size) (hr : ∀ i, row = some i → R ≤ i ∨ i = g) : Foot g R a b :=
  ⟨h.os, h.tape, h.output, h.size, fun i hi hg => h.block i (by omega) fun e => by rcases hr i e.symm with h1 | h1 <;> omega⟩
theorem Foot.put (h : Foot g R a b) {p : Nat} (hp : p = g ∨ R ≤ p) (i : Nat) (u : Value) : Foot g R a (b.setCell ⟨p, i, none⟩ u) :=
  ⟨h.os, h.tape, h.output, by simpa [World.setCell] using h.size, fun j hj hg => (Below.heap_setCell b ⟨p, i, none⟩ u j (by show j ≠ p; omega)).trans (h.block j hj hg)⟩
theorem Foot.row (h : Foot g R a b) {p : Nat} (hp : p = g ∨ R ≤ p) (cs : Array Value) : Foot g R a (b.setRow p cs) :=
  ⟨h.os, h.tape, h.output, by rw [setRow_size]; exact h.size, fun j hj hg => (setRow_other b p j cs (by omega)).trans (h.block j hj hg)⟩
theorem Foot.below {B : Nat} (h : Foot g R a b) (hg : B ≤ g) (hR : B ≤ R) : Below B a b := ⟨h.os, h.tape, h.output, h.size, fun i hi => h.block i (by omega) (by omega)⟩
theorem Foot.box {p : Nat} {t : TypeId} {cs : Array Value} (h : Foot g R a b) (hb : Box a p t cs) (hp : p < R) (hg : p ≠ g) : Box b p t cs := (h.block p hp hg).trans hb
end
/-- a state in block g, its rows from R on -/
structure Here (w : World) (g R : Nat) (x : SV) : Prop where
  box : Box w g 27 x.arr
  own : SOwn w R x
  lt : g < R
  le : R ≤ w.heap.size
section
variable {w w' : World} {g R : Nat} {x : SV}
theorem Here.below (h : Here w g R x) (hb : Below w.heap.size w w') : Here w' g R x := ⟨h.box.below hb h.box.lt, h.own.below hb, h.lt, Nat.le_trans h.le hb.size⟩
theorem Here.cells (h : Here w g R x) : w.cell? ⟨g, 0, none⟩ = some (.slice x.AD x.nD x.cD) ∧ w.cell? ⟨g, 1, none⟩ = some (.slice x.AS x.nS x.cS) ∧ w.cell? ⟨g, 2, none⟩ = some (.int .i64 x.nx) := ⟨h.box.cell 0, h.box.cell 1, h.box.cell 2⟩
theorem Here.frozen (h : Here w g R x) : w.frozen? ⟨g, 0, none⟩ = false ∧ w.frozen? ⟨g, 1, none⟩ = false ∧ w.frozen? ⟨g, 2, none⟩ = false := ⟨h.box.frozen 0, h.box.frozen 1, h.box.frozen 2⟩
end
/-! ### A struct stored into the midst of a block -/
variable {P : Program}
theorem run_storeVar_mid (w : World) (g o : Nat) (t ty : TypeId) (old cells : Array Value) (hg : w.heap[g]? = some (.cells old t (0, 0))) (hi : (P.info? ty).map (·.size) = some cells.size)
    (ho : o + cells.size ≤ old.size) (h1 : cells.all (·.oneCell') = true) : (storeVar ty ⟨g, o, none⟩ (.agg cells)).run P w = .ok () (w.setRow g (spl old o cells.toList)) := by
  have := run_storeCells_at P g o t cells.toList 0 old w hg (by simpa using ho) (fun v hv => (Array.all_eq_true_iff_forall_mem.1 h1) v (by simpa using hv))
  simp only [Nat.add_zero] at this
  cases hq : P.info? ty with
  | none => simp [hq] at hi
  | some i =>
    have hs : cells.size = i.size := by simp [hq] at hi; omega
    simp [storeVar, sizeOf, typeInfo, hq, Value.cells, hs, this, spl]
theorem oper_store_mid {op : Oper} {a : Act} {w : World} {K : Act → World → Prop} {Q : Exit → Act → World → Prop} (ty : TypeId) (x y : Operand) (ho : op.op = .store ty x y)
    (g o : Nat) (t : TypeId) (old cs : Array Value) (hx : a.eval x = .pointer (some ⟨g, o, none⟩)) (hy : a.eval y = .agg cs) (hg : w.heap[g]? = some (.cells old t (0, 0)))
    (hi : (P.info? ty).map (·.size) = some cs.size) (hs : o + cs.size ≤ old.size) (h1 : cs.all (·.oneCell') = true) (h : K (a.put op.dst undef) (w.setRow g (spl old o cs.toList))) : Oper.wp P op a w K Q := by
  unfold Oper.wp execOp
  simp only [ho, hx, hy, Instr.storeAt, Instr.sureAddr, Sem.run_bind, Sem.run_pure, Result.andThen_ok, run_storeVar_mid w g o t ty old cs hg hi hs h1]
  exact h
theorem wpList_store_mid {ops : Array Oper} {rest : List Oper} {op : Oper} {a : Act} {w : World} {Q : Exit → Act → World → Prop} (hgd : op.guard = none) (ty : TypeId) (x y : Operand) (ho : op.op = .store ty x y)
    (g o : Nat) (t : TypeId) (old cs : Array Value) (hx : a.eval x = .pointer (some ⟨g, o, none⟩)) (hy : a.eval y = .agg cs) (hg : w.heap[g]? = some (.cells old t (0, 0)))
    (hi : (P.info? ty).map (·.size) = some cs.size) (hs : o + cs.size ≤ old.size) (h1 : cs.all (·.oneCell') = true)
    (h : wpList P ops Q rest (a.put op.dst undef) (w.setRow g (spl old o cs.toList))) : wpList P ops Q (op :: rest) a w :=
  wpList_plain hgd fun _ hK => oper_store_mid ty x y ho g o t old cs hx hy hg hi hs h1 (hK _ _ h)
end Go.Proofs.YteejocnogpaifaaGreatDoor.Tt
