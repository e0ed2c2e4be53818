/-
  An argument of type []Act, opened to its acts.
  Conditions: none.
-/
import Derived.Test.YthfekmmcdfkigaaStoArg
import Derived.Test.YthfekmmcdfkigaaRows
import Derived.Deep.Slices
import Derived.Deep.Fields
import Derived.ChangeSame
namespace Go.Proofs.Ythfekmmcdfkigaa
open Go.ChangeShapes Go.WideShapes Go.ChangeAt Go.RowKit

theorem cells3 : Try.prog.cellsOf 3 = 1 := by kernel_rfl
theorem add_at (b o n : Nat) : (⟨b, o, none⟩ : Addr).add n = ⟨b, o + n, none⟩ := by unfold Addr.add; split <;> simp_all
theorem open_bytes {H : Type} {enc : TypeId × Value → H} {W : World} {fuel : Nat} {c : Value} {x : DataW H × List MemPlace} (hf : DataW.trod enc Try.prog W 0 (fun _ => true) true fuel 28 [c] = some x) :
    ∃ (A : Option Addr) (l : List UInt8) (cap : Nat), c = .slice A l.length cap ∧ l.length ≤ cap ∧ l.length ≤ 9223372036854775807 ∧ Byt W W.heap.size A l := by
  have hc : ∃ A len cap, c = .slice A len cap := by
    rcases open_ints Try.underlying28 Try.underlying5 cells5 hf with ⟨hcs, _⟩ | ⟨a, len', cap', zs, hcs, _⟩
    · simp only [List.cons.injEq, and_true] at hcs; exact ⟨_, _, _, hcs⟩
    · simp only [List.cons.injEq, and_true] at hcs; exact ⟨_, _, _, hcs⟩
  obtain ⟨A, len, cap, rfl⟩ := hc
  obtain ⟨d, p⟩ := x
  obtain ⟨l, rfl, h1, h2, h3⟩ := arg_bytes (a0 := A) (len := len) (cap := cap) (d0 := d) (p := p) ⟨fuel, hf⟩
  exact ⟨A, l, cap, rfl, h1, h2, h3⟩
theorem open_nums {H : Type} {enc : TypeId × Value → H} {W : World} {fuel : Nat} {c : Value} {x : DataW H × List MemPlace} (hf : DataW.trod enc Try.prog W 0 (fun _ => true) true fuel 29 [c] = some x) :
    ∃ (A : Option Addr) (ks : List Int) (cap : Nat), c = .slice A ks.length cap ∧ ks.length ≤ cap ∧ ks.length ≤ 9223372036854775807 ∧ Ints W (fun i => i < W.heap.size) A ks := by
  rcases open_ints Try.underlying29 Try.underlying3 cells3 hf with ⟨hcs, _⟩ | ⟨a, len, cap, zs, hcs, _, hl, hm, hz, _, hcell, hwz⟩
  · simp only [List.cons.injEq, and_true] at hcs
    exact ⟨none, [], 0, hcs, Nat.le_refl _, by simp, ⟨fun h => absurd rfl h, by simp⟩⟩
  · simp only [List.cons.injEq, and_true] at hcs
    simp only [if_true] at hz
    have hlen : (zs.take len).length = len := by simp; omega
    refine ⟨some a, zs.take len, cap, by rw [hlen]; exact hcs, by omega, by unfold maxLen at hm; omega, ⟨fun hne => ?_, fun y hy => int_wf (hwz y (List.mem_of_mem_take hy))⟩⟩
    have hpos : 0 < zs.length := by
      rcases Nat.eq_zero_or_pos zs.length with h | h
      · exact absurd (List.eq_nil_of_length_eq_zero (by simp; omega)) hne
      · exact h
    have h0 := hcell 0 hpos
    have hs : a.spot = none := World.cell?_spot (by simpa [Addr.add] using h0)
    obtain ⟨b, o, sp⟩ := a
    simp only at hs
    subst hs
    have hblt : b < W.heap.size := by simpa [Addr.add] using World.block_lt_of_cell? _ _ h0
    refine ⟨b, o, rfl, hblt, hblt, fun k hk => ?_⟩
    have hk' : k < zs.length := by simp at hk; omega
    have hc := hcell k hk'
    rw [add_at] at hc
    rw [hc]
    simp [List.getD, hk']

theorem arg_nums {H : Type} {enc : TypeId × Value → H} {W : World} {a0 : Option Addr} {len cap : Nat} {d0 : DataW H} {p : List MemPlace}
    (h0 : DataW.Trod enc Try.prog W 0 (fun _ => true) true 29 (.slice a0 len cap) d0 p) :
    ∃ ks : List Int, ks.length = len ∧ ks.length ≤ 9223372036854775807 ∧ Ints W (fun i => i < W.heap.size) a0 ks := by
  obtain ⟨fuel, hf⟩ := h0
  obtain ⟨A, ks, c, e, _, h1, h2⟩ := open_nums (c := .slice a0 len cap) hf
  injection e with e1 e2 e3
  subst e1 e2 e3
  exact ⟨ks, rfl, h1, h2⟩

/-- an act -/
structure ActD where
  kind : Int
  n : Int
  s : ByteArray
  ba : Option Addr
  b : List UInt8
  bc : Nat
  ka : Option Addr
  ks : List Int
  kc : Nat
def ActD.cells (a : ActD) : Array Value := #[.int .i64 a.kind, .int .i64 a.n, .string a.s, .slice a.ba a.b.length a.bc, .slice a.ka a.ks.length a.kc]
/-- its numbers are ints, its text is one; its bytes and numbers are there -/
structure ActD.Ok (w : World) (B : Nat) (a : ActD) : Prop where
  k0 : -9223372036854775808 ≤ a.kind
  k1 : a.kind ≤ 9223372036854775807
  n0 : -9223372036854775808 ≤ a.n
  n1 : a.n ≤ 9223372036854775807
  s1 : a.s.size ≤ 9223372036854775807
  b1 : a.b.length ≤ 9223372036854775807
  ks1 : a.ks.length ≤ 9223372036854775807
  byt : Byt w B a.ba a.b
  ints : Ints w (fun i => i < B) a.ka a.ks

/-- the act at a place of a slice -/
def ActAt (w : World) (B : Nat) (A : Option Addr) (i : Nat) (a : ActD) : Prop :=
  a.Ok w B ∧ ∃ b o, A = some ⟨b, o, none⟩ ∧ b < B ∧ ∀ j v, a.cells[j]? = some v → w.cell? ⟨b, o + (i * 5 + j), none⟩ = some v
theorem ActD.Ok.below {w w' : World} {B : Nat} {a : ActD} (h : a.Ok w B) (hb : Below B w w') : a.Ok w' B :=
  ⟨h.k0, h.k1, h.n0, h.n1, h.s1, h.b1, h.ks1, h.byt.below hb, ⟨fun hne => by
    obtain ⟨b, o, e, hx, hl, hc⟩ := h.ints.at' hne
    exact ⟨b, o, e, hx, Nat.lt_of_lt_of_le hl hb.size, fun k hk => (hb.cell (p := ⟨b, o + k, none⟩) hx).trans (hc k hk)⟩, h.ints.bd⟩⟩
theorem ActAt.below {w w' : World} {B : Nat} {A : Option Addr} {i : Nat} {a : ActD} (h : ActAt w B A i a) (hb : Below B w w') : ActAt w' B A i a := by
  obtain ⟨ok, b, o, e, hlt, hc⟩ := h
  exact ⟨ok.below hb, b, o, e, hlt, fun j v hv => (hb.cell (p := ⟨b, o + (i * 5 + j), none⟩) hlt).trans (hc j v hv)⟩

/-- its five cells -/
def Five (w : World) (b o : Nat) (a : ActD) : Prop :=
  w.cell? ⟨b, o, none⟩ = some (.int .i64 a.kind) ∧ w.cell? ⟨b, o + 1, none⟩ = some (.int .i64 a.n) ∧ w.cell? ⟨b, o + 2, none⟩ = some (.string a.s) ∧ w.cell? ⟨b, o + 3, none⟩ = some (.slice a.ba a.b.length a.bc) ∧ w.cell? ⟨b, o + 4, none⟩ = some (.slice a.ka a.ks.length a.kc)
theorem ActAt.five {w : World} {B b o i : Nat} {a : ActD} (h : ActAt w B (some ⟨b, o, none⟩) i a) {w' : World} (hb : Below B w w') : Five w' b (o + i * 5) a := by
  obtain ⟨_, b', o', e, hlt, hc⟩ := h
  injection e with e
  injection e with e1 e2
  subst e1 e2
  have hx : ∀ j v, a.cells[j]? = some v → w'.cell? ⟨b, o + i * 5 + j, none⟩ = some v := fun j v hv => by
    rw [Nat.add_assoc]
    exact (hb.cell (p := ⟨b, o + (i * 5 + j), none⟩) hlt).trans (hc j v hv)
  exact ⟨hx 0 _ rfl, hx 1 _ rfl, hx 2 _ rfl, hx 3 _ rfl, hx 4 _ rfl⟩

theorem cells30 : Try.prog.cellsOf 31 = 5 := by kernel_rfl
theorem cells9 : Try.prog.cellsOf 9 = 1 := by kernel_rfl
theorem cells28 : Try.prog.cellsOf 28 = 1 := by kernel_rfl
theorem cells29 : Try.prog.cellsOf 29 = 1 := by kernel_rfl
/-- a function of places out of what each place has -/
theorem pick_fun {α : Type} (d : α) {n : Nat} {Q : Nat → α → Prop} (h : ∀ i, i < n → ∃ a, Q i a) : ∃ f : Nat → α, ∀ i, i < n → Q i (f i) :=
  ⟨fun i => if hi : i < n then Classical.choose (h i hi) else d, fun i hi => by simp only [dif_pos hi]; exact Classical.choose_spec (h i hi)⟩
def noAct : ActD := ⟨0, 0, ⟨#[]⟩, none, [], 0, none, [], 0⟩

set_option maxRecDepth 100000 in
theorem arg_acts {H : Type} {enc : TypeId × Value → H} {W : World} {a0 : Option Addr} {len cap : Nat} {d0 : DataW H} {p : List MemPlace}
    (h0 : DataW.Trod enc Try.prog W 0 (fun _ => true) true 22 (.slice a0 len cap) d0 p) :
    ∃ f : Nat → ActD, len ≤ cap ∧ len ≤ 9223372036854775807 ∧ ∀ i, i < len → ActAt W W.heap.size a0 i (f i) := by
  obtain ⟨fuel, hf⟩ := h0
  rcases Deep.open_slice Try.underlying22 hf with ⟨hcs, _⟩ | ⟨a, len', cap', m, n, D, Pl, hcs, _, hl, hm, hmm, _, hi⟩
  · simp [Value.cells] at hcs
    obtain ⟨rfl, rfl, rfl⟩ := hcs
    exact ⟨fun _ => noAct, Nat.le_refl _, by omega, fun i hi => absurd hi (by omega)⟩
  · simp [Value.cells] at hcs
    obtain ⟨rfl, rfl, rfl⟩ := hcs
    simp only [if_true] at hmm
    subst hmm
    suffices H : ∀ i, i < len → ∃ x, ActAt W W.heap.size (some a) i x by
      obtain ⟨f, hf⟩ := pick_fun noAct H
      exact ⟨f, hl, by unfold maxLen at hm; omega, hf⟩
    intro i hi'
    have hsp : a.spot = none ∧ a.block < W.heap.size := by
      obtain ⟨cs0, hc0, _⟩ := hi 0 (by omega)
      rw [cells30] at hc0
      obtain ⟨_, hlen0, hat0⟩ := World.cells?_some hc0
      have g0 := hat0 0 (by omega)
      rw [List.getElem?_eq_getElem (by omega)] at g0
      exact ⟨World.cell?_spot (by simpa [Addr.add] using g0), by simpa [Addr.add] using World.block_lt_of_cell? _ _ g0⟩
    obtain ⟨b, o, sp⟩ := a
    simp only at hsp
    obtain ⟨rfl, hblt⟩ := hsp
    have hadd : ∀ n : Nat, (⟨b, o, none⟩ : Addr).add n = ⟨b, o + n, none⟩ := fun n => by unfold Addr.add; split <;> simp_all
    have hadd2 : ∀ m n : Nat, (⟨b, m, none⟩ : Addr).add n = ⟨b, m + n, none⟩ := fun m n => by unfold Addr.add; split <;> simp_all
    obtain ⟨cs', hc, ht⟩ := hi i (by omega)
    rw [cells30] at hc
    obtain ⟨_, hlen, hat⟩ := World.cells?_some hc
    obtain ⟨ys, n', _, _, hl5, hyl, hfld⟩ := DataW.trod_struct Try.underlying31 ht
    simp only [List.size_toArray, List.length_cons, List.length_nil, Nat.reduceAdd] at hyl
    have e0 : DataW.trod enc Try.prog W 0 (fun _ => true) true n' 3 ((cs'.drop 0).take (Try.prog.cellsOf 3)) = ys[0]? := hfld 0 _ rfl
    have e1 : DataW.trod enc Try.prog W 0 (fun _ => true) true n' 3 ((cs'.drop 1).take (Try.prog.cellsOf 3)) = ys[1]? := hfld 1 _ rfl
    have e2 : DataW.trod enc Try.prog W 0 (fun _ => true) true n' 9 ((cs'.drop 2).take (Try.prog.cellsOf 9)) = ys[2]? := hfld 2 _ rfl
    have e3 : DataW.trod enc Try.prog W 0 (fun _ => true) true n' 28 ((cs'.drop 3).take (Try.prog.cellsOf 28)) = ys[3]? := hfld 3 _ rfl
    have e4 : DataW.trod enc Try.prog W 0 (fun _ => true) true n' 29 ((cs'.drop 4).take (Try.prog.cellsOf 29)) = ys[4]? := hfld 4 _ rfl
    match cs', hlen, ys, hyl with
    | [c0, c1, c2, c3, c4], _, [y0, y1, y2, y3, y4], _ =>
      simp only [cells3, cells9, cells28, cells29, List.drop_zero, List.drop_succ_cons, List.take_succ_cons, List.take_zero, List.getElem?_cons_zero, List.getElem?_cons_succ] at e0 e1 e2 e3 e4
      obtain ⟨x0, q0, _, w0⟩ := DataW.trod_int Try.underlying3 e0
      obtain ⟨x1, q1, _, w1⟩ := DataW.trod_int Try.underlying3 e1
      obtain ⟨x2, q2, _, w2⟩ := DataW.trod_string Try.underlying9 e2
      obtain ⟨A3, l3, cap3, q3, _, m3, b3⟩ := open_bytes e3
      obtain ⟨A4, l4, cap4, q4, _, m4, b4⟩ := open_nums e4
      simp only [List.cons.injEq, and_true] at q0 q1 q2
      subst q0 q1 q2 q3 q4
      have k0 := int_wf w0
      have k1 := int_wf w1
      refine ⟨⟨x0, x1, x2, A3, l3, cap3, A4, l4, cap4⟩, ⟨k0.1, k0.2, k1.1, k1.2, by unfold maxLen at w2; exact by omega, m3, m4, b3, b4⟩, ?_⟩
      refine ⟨b, o, rfl, hblt, fun j v hv => ?_⟩
      have hj : j < 5 := by
        rcases Nat.lt_or_ge j 5 with h | h
        · exact h
        · rw [Array.getElem?_eq_none (by simpa [ActD.cells] using h)] at hv; cases hv
      have hx := hat j hj
      rw [hadd, hadd2, Nat.add_assoc] at hx
      rw [hx, ← hv]
      have hj' : j = 0 ∨ j = 1 ∨ j = 2 ∨ j = 3 ∨ j = 4 := by omega
      rcases hj' with rfl | rfl | rfl | rfl | rfl <;> rfl
end Go.Proofs.Ythfekmmcdfkigaa
