/-
  Arguments, opened: a []byte to the list of its bytes, a []Act to its acts.
  Conditions: none.
-/
import Derived.Test.YtenkjopmldmobaaFldAwake
import Derived.Test.YtenkjopmldmobaaRows
import Derived.ProofKit
import Derived.OpenShut
import Derived.SizedLaws
import Derived.Carry
import Derived.Deep.Slices
import Derived.Deep.Fields
import Derived.ChangeSame
namespace Go.Proofs.Ytenkjopmldmobaa
open Go.ChangeShapes Go.WideShapes Go.ChangeAt Go.RowKit

theorem own : ownKnob Try.prog.godebug = none := by kernel_rfl
theorem laidOut : laidOutB Try.prog = true := by kernel_rfl
theorem cells5 : Try.prog.cellsOf 5 = 1 := by kernel_rfl
theorem byte_wf {x : Int} (h : (Lit.int .u8 x).wf = true) : 0 ≤ x ∧ x < 256 := by
  have h1 : IntKind.u8.min = 0 := rfl
  have h2 : IntKind.u8.max = 255 := rfl
  simp only [Lit.wf, Bool.and_eq_true, decide_eq_true_eq] at h
  omega
theorem int_wf {x : Int} (h : (Lit.int .i64 x).wf = true) : -9223372036854775808 ≤ x ∧ x ≤ 9223372036854775807 := by
  have h1 : IntKind.i64.min = -9223372036854775808 := rfl
  have h2 : IntKind.i64.max = 9223372036854775807 := rfl
  simp only [Lit.wf, Bool.and_eq_true, decide_eq_true_eq] at h
  omega
theorem arg_bytes {H : Type} {enc : TypeId × Value → H} {W : World} {a0 : Option Addr} {len cap : Nat} {d0 : DataW H} {p : List MemPlace}
    (h0 : DataW.Trod enc Try.prog W 0 (fun _ => true) true 22 (.slice a0 len cap) d0 p) :
    ∃ l : List UInt8, len = l.length ∧ l.length ≤ cap ∧ l.length ≤ 9223372036854775807 ∧ Byt W W.heap.size a0 l := by
  obtain ⟨fuel, hf⟩ := h0
  rcases open_ints Try.underlying22 Try.underlying5 cells5 hf with ⟨hcs, _⟩ | ⟨a, len', cap', zs, hcs, _, hl, hm, hz, _, hcell, hwz⟩
  · simp [Value.cells] at hcs
    obtain ⟨rfl, rfl, rfl⟩ := hcs
    exact ⟨[], rfl, Nat.le_refl _, by simp, Byt.none _ _ _⟩
  · simp [Value.cells] at hcs
    obtain ⟨rfl, rfl, rfl⟩ := hcs
    simp only [if_true] at hz
    have hlen : ((zs.take len).map fun n => UInt8.ofNat n.toNat).length = len := by simp; omega
    refine ⟨(zs.take len).map fun n => UInt8.ofNat n.toNat, hlen.symm, by omega, by unfold maxLen at hm; omega, fun hne => ?_⟩
    have hpos : 0 < zs.length := by
      rcases Nat.eq_zero_or_pos zs.length with h | h
      · exact absurd (List.eq_nil_of_length_eq_zero (by simp; omega)) hne
      · exact h
    have h0 := hcell 0 hpos
    have hs : a.spot = none := World.cell?_spot (by simpa [Addr.add] using h0)
    obtain ⟨b, o, sp⟩ := a
    simp only at hs
    subst hs
    refine ⟨b, o, rfl, by simpa [Addr.add] using World.block_lt_of_cell? _ _ h0, fun k hk => ?_⟩
    have hk' : k < zs.length := by simp at hk; omega
    have hc := hcell k hk'
    rw [show (⟨b, o, none⟩ : Addr).add k = ⟨b, o + k, none⟩ by unfold Addr.add; split <;> simp_all] at hc
    rw [hc]
    have hw := byte_wf (hwz zs[k] (List.getElem_mem hk'))
    simp only [List.getElem_map, List.getElem_take, UInt8.toNat_ofNat', List.getD, List.getElem?_eq_getElem hk', Option.getD_some, Option.some.injEq, Value.int.injEq, true_and]
    omega

/-- an act -/
structure ActD where
  kind : Int
  n : Int
  least : Int
  s : ByteArray
  yes : Bool
/-- its numbers are ints, its text is one -/
structure ActD.Ok (a : ActD) : Prop where
  k0 : -9223372036854775808 ≤ a.kind
  k1 : a.kind ≤ 9223372036854775807
  n0 : -9223372036854775808 ≤ a.n
  n1 : a.n ≤ 9223372036854775807
  l0 : -9223372036854775808 ≤ a.least
  l1 : a.least ≤ 9223372036854775807
  s1 : a.s.size ≤ 9223372036854775807
def ActD.cells (a : ActD) : Array Value := #[.int .i64 a.kind, .int .i64 a.n, .int .i64 a.least, .string a.s, .bool a.yes]

/-- the act at a place of a slice -/
def ActAt (w : World) (B : Nat) (A : Option Addr) (i : Nat) (a : ActD) : Prop :=
  a.Ok ∧ ∃ b o, A = some ⟨b, o, none⟩ ∧ b < B ∧ ∀ j v, a.cells[j]? = some v → w.cell? ⟨b, o + (i * 5 + j), none⟩ = some v
theorem ActAt.below {w w' : World} {B : Nat} {A : Option Addr} {i : Nat} {a : ActD} (h : ActAt w B A i a) (hb : Below B w w') : ActAt w' B A i a := by
  obtain ⟨ok, b, o, e, hlt, hc⟩ := h
  exact ⟨ok, b, o, e, hlt, fun j v hv => (hb.cell (p := ⟨b, o + (i * 5 + j), none⟩) hlt).trans (hc j v hv)⟩

/-- its five cells -/
def Five (w : World) (b o : Nat) (a : ActD) : Prop :=
  w.cell? ⟨b, o, none⟩ = some (.int .i64 a.kind) ∧ w.cell? ⟨b, o + 1, none⟩ = some (.int .i64 a.n) ∧ w.cell? ⟨b, o + 2, none⟩ = some (.int .i64 a.least) ∧ w.cell? ⟨b, o + 3, none⟩ = some (.string a.s) ∧ w.cell? ⟨b, o + 4, none⟩ = some (.bool a.yes)
theorem ActAt.five {w : World} {B b o i : Nat} {a : ActD} (h : ActAt w B (some ⟨b, o, none⟩) i a) {w' : World} (hb : Below B w w') : Five w' b (o + i * 5) a := by
  obtain ⟨_, b', o', e, hlt, hc⟩ := h
  injection e with e
  injection e with e1 e2
  subst e1 e2
  have hx : ∀ j v, a.cells[j]? = some v → w'.cell? ⟨b, o + i * 5 + j, none⟩ = some v := fun j v hv => by
    rw [Nat.add_assoc]
    exact (hb.cell (p := ⟨b, o + (i * 5 + j), none⟩) hlt).trans (hc j v hv)
  exact ⟨hx 0 _ rfl, hx 1 _ rfl, hx 2 _ rfl, hx 3 _ rfl, hx 4 _ rfl⟩

theorem cells30 : Try.prog.cellsOf 30 = 5 := by kernel_rfl
theorem cells3 : Try.prog.cellsOf 3 = 1 := by kernel_rfl
theorem cells9 : Try.prog.cellsOf 9 = 1 := by kernel_rfl
theorem cells4 : Try.prog.cellsOf 4 = 1 := by kernel_rfl
/-- a function of places out of what each place has -/
theorem pick_fun {α : Type} (d : α) {n : Nat} {Q : Nat → α → Prop} (h : ∀ i, i < n → ∃ a, Q i a) : ∃ f : Nat → α, ∀ i, i < n → Q i (f i) :=
  ⟨fun i => if hi : i < n then Classical.choose (h i hi) else d, fun i hi => by simp only [dif_pos hi]; exact Classical.choose_spec (h i hi)⟩
def noAct : ActD := ⟨0, 0, 0, ⟨#[]⟩, false⟩

theorem arg_acts {H : Type} {enc : TypeId × Value → H} {W : World} {a0 : Option Addr} {len cap : Nat} {d0 : DataW H} {p : List MemPlace}
    (h0 : DataW.Trod enc Try.prog W 0 (fun _ => true) true 23 (.slice a0 len cap) d0 p) :
    ∃ f : Nat → ActD, len ≤ cap ∧ len ≤ 9223372036854775807 ∧ ∀ i, i < len → ActAt W W.heap.size a0 i (f i) := by
  obtain ⟨fuel, hf⟩ := h0
  rcases Deep.open_slice Try.underlying23 hf with ⟨hcs, _⟩ | ⟨a, len', cap', m, n, D, Pl, hcs, _, hl, hm, hmm, _, hi⟩
  · simp [Value.cells] at hcs
    obtain ⟨rfl, rfl, rfl⟩ := hcs
    exact ⟨fun _ => noAct, Nat.le_refl _, by omega, fun i hi => absurd hi (by omega)⟩
  · simp [Value.cells] at hcs
    obtain ⟨rfl, rfl, rfl⟩ := hcs
    simp only [if_true] at hmm
    subst hmm
    suffices H : ∀ i, i < len → ∃ x, ActAt W W.heap.size (some a) i x by
      obtain ⟨f, hf⟩ := pick_fun noAct H
      exact ⟨f, hl, by unfold maxLen at hm; omega, hf⟩
    intro i hi'
    have hsp : a.spot = none ∧ a.block < W.heap.size := by
      obtain ⟨cs0, hc0, _⟩ := hi 0 (by omega)
      rw [cells30] at hc0
      obtain ⟨_, hlen0, hat0⟩ := World.cells?_some hc0
      have g0 := hat0 0 (by omega)
      rw [List.getElem?_eq_getElem (by omega)] at g0
      exact ⟨World.cell?_spot (by simpa [Addr.add] using g0), by simpa [Addr.add] using World.block_lt_of_cell? _ _ g0⟩
    obtain ⟨b, o, sp⟩ := a
    simp only at hsp
    obtain ⟨rfl, hblt⟩ := hsp
    have hadd : ∀ n : Nat, (⟨b, o, none⟩ : Addr).add n = ⟨b, o + n, none⟩ := fun n => by unfold Addr.add; split <;> simp_all
    have hadd2 : ∀ m n : Nat, (⟨b, m, none⟩ : Addr).add n = ⟨b, m + n, none⟩ := fun m n => by unfold Addr.add; split <;> simp_all
    obtain ⟨cs', hc, ht⟩ := hi i (by omega)
    rw [cells30] at hc
    obtain ⟨_, hlen, hat⟩ := World.cells?_some hc
    obtain ⟨ys, n', _, _, hl5, hyl, hfld⟩ := DataW.trod_struct Try.underlying30 ht
    simp only [List.size_toArray, List.length_cons, List.length_nil, Nat.reduceAdd] at hyl
    have e0 : DataW.trod enc Try.prog W 0 (fun _ => true) true n' 3 ((cs'.drop 0).take (Try.prog.cellsOf 3)) = ys[0]? := hfld 0 _ rfl
    have e1 : DataW.trod enc Try.prog W 0 (fun _ => true) true n' 3 ((cs'.drop 1).take (Try.prog.cellsOf 3)) = ys[1]? := hfld 1 _ rfl
    have e2 : DataW.trod enc Try.prog W 0 (fun _ => true) true n' 3 ((cs'.drop 2).take (Try.prog.cellsOf 3)) = ys[2]? := hfld 2 _ rfl
    have e3 : DataW.trod enc Try.prog W 0 (fun _ => true) true n' 9 ((cs'.drop 3).take (Try.prog.cellsOf 9)) = ys[3]? := hfld 3 _ rfl
    have e4 : DataW.trod enc Try.prog W 0 (fun _ => true) true n' 4 ((cs'.drop 4).take (Try.prog.cellsOf 4)) = ys[4]? := hfld 4 _ rfl
    match cs', hlen, ys, hyl with
    | [c0, c1, c2, c3, c4], _, [y0, y1, y2, y3, y4], _ =>
      simp only [cells3, cells9, cells4, List.drop_zero, List.drop_succ_cons, List.take_succ_cons, List.take_zero, List.getElem?_cons_zero, List.getElem?_cons_succ] at e0 e1 e2 e3 e4
      obtain ⟨x0, q0, _, w0⟩ := DataW.trod_int Try.underlying3 e0
      obtain ⟨x1, q1, _, w1⟩ := DataW.trod_int Try.underlying3 e1
      obtain ⟨x2, q2, _, w2⟩ := DataW.trod_int Try.underlying3 e2
      obtain ⟨x3, q3, _, w3⟩ := DataW.trod_string Try.underlying9 e3
      obtain ⟨x4, q4, _⟩ := DataW.trod_bool Try.underlying4 e4
      simp only [List.cons.injEq, and_true] at q0 q1 q2 q3 q4
      subst q0 q1 q2 q3 q4
      have k0 := int_wf w0
      have k1 := int_wf w1
      have k2 := int_wf w2
      refine ⟨⟨x0, x1, x2, x3, x4⟩, ⟨k0.1, k0.2, k1.1, k1.2, k2.1, k2.2, by unfold maxLen at w3; exact by omega⟩, ?_⟩
      refine ⟨b, o, rfl, hblt, fun j v hv => ?_⟩
      have hj : j < 5 := by
        rcases Nat.lt_or_ge j 5 with h | h
        · exact h
        · rw [Array.getElem?_eq_none (by simpa [ActD.cells] using h)] at hv; cases hv
      have hx := hat j hj
      rw [hadd, hadd2, Nat.add_assoc] at hx
      rw [hx, ← hv]
      have hj' : j = 0 ∨ j = 1 ∨ j = 2 ∨ j = 3 ∨ j = 4 := by omega
      rcases hj' with rfl | rfl | rfl | rfl | rfl <;> rfl
end Go.Proofs.Ytenkjopmldmobaa
