/-
  Arguments, opened: a []api.Party to its parties, a []Act to its acts; few: are the names short?
  Conditions: none.
-/
import Derived.Test.YtapnnlebokcmgaaGrdNew
import Derived.Test.YtapnnlebokcmgaaRows
import Derived.ProofKit
import Derived.OpenShut
import Derived.SizedLaws
import Derived.Carry
import Derived.Deep.Slices
import Derived.Deep.Fields
import Derived.ChangeSame
namespace Go.Proofs.Ytapnnlebokcmgaa.Gd
open Go.ChangeShapes Go.WideShapes Go.ChangeAt Go.RowKit
open Go.Proofs.Ytapnnlebokcmgaa.Bk (S Brk Aft kind ret_int ret_bool)

theorem own : ownKnob Try.prog.godebug = none := by kernel_rfl
theorem laidOut : laidOutB Try.prog = true := by kernel_rfl
theorem fits {k : IntKind} {a lo hi : Int} (h : (Lit.int k a).wf = true) (hl : k.min = lo) (hh : k.max = hi) : lo ≤ a ∧ a ≤ hi := by
  simp only [Lit.wf, Bool.and_eq_true, decide_eq_true_eq] at h
  omega
/-- a function of places out of what each place has -/
theorem pick_fun {α : Type} (d : α) {n : Nat} {Q : Nat → α → Prop} (h : ∀ i, i < n → ∃ a, Q i a) : ∃ f : Nat → α, ∀ i, i < n → Q i (f i) :=
  ⟨fun i => if hi : i < n then Classical.choose (h i hi) else d, fun i hi => by simp only [dif_pos hi]; exact Classical.choose_spec (h i hi)⟩
/-- a slice that reads as a list of structs of k cells, below block B -/
def Els {α : Type} (ec : α → List Value) (k : Nat) (w : World) (B : Nat) (A : Option Addr) (l : List α) : Prop :=
  ∀ i a, l[i]? = some a → ∃ b o, A = some ⟨b, o, none⟩ ∧ b < B ∧ ∀ j u, (ec a)[j]? = some u → w.cell? ⟨b, o + i * k + j, none⟩ = some u
theorem Els.below {α : Type} {ec : α → List Value} {k : Nat} {w w' : World} {B : Nat} {A : Option Addr} {l : List α} (h : Els ec k w B A l) (hb : Below B w w') : Els ec k w' B A l := fun i p hp => by
  obtain ⟨b, o, e, hlt, hc⟩ := h i p hp
  exact ⟨b, o, e, hlt, fun j u hu => (hb.cell (p := ⟨b, o + i * k + j, none⟩) hlt).trans (hc j u hu)⟩
theorem Els.at_ {α : Type} {ec : α → List Value} {k : Nat} {w : World} {B : Nat} {A : Option Addr} {l : List α} (h : Els ec k w B A l) {i : Nat} {a : α} (ha : l[i]? = some a) : ∃ b o, A = some ⟨b, o, none⟩ ∧ b < B := by
  obtain ⟨b, o, e, hlt, _⟩ := h i a ha
  exact ⟨b, o, e, hlt⟩
theorem Els.get {α : Type} {ec : α → List Value} {k : Nat} {w : World} {B b o : Nat} {l : List α} (h : Els ec k w B (some ⟨b, o, none⟩) l) {i : Nat} {a : α} (ha : l[i]? = some a) (j : Nat) {u : Value} (hu : (ec a)[j]? = some u) : w.cell? ⟨b, o + i * k + j, none⟩ = some u := by
  obtain ⟨b', o', e, _, hc⟩ := h i a ha
  injection e with e
  injection e with e1 e2
  subst e1 e2
  exact hc j u hu
/-- an argument: a slice of structs of k cells -/
theorem arg_els {H : Type} {enc : TypeId × Value → H} {W : World} {a0 : Option Addr} {len cap : Nat} {d0 : DataW H} {p : List MemPlace} {U e : TypeId} {α : Type} (dflt : α) (ec : α → List Value) (Good : α → Prop) (k : Nat) (k0 : 0 < k) (hT : Try.prog.underlying U = some (.slice e)) (he : Try.prog.cellsOf e = k)
    (hel : ∀ fuel cs x, DataW.trod enc Try.prog W 0 (fun _ => true) true fuel e cs = some x → cs.length = k → ∃ a, Good a ∧ cs = ec a)
    (h0 : DataW.Trod enc Try.prog W 0 (fun _ => true) true U (.slice a0 len cap) d0 p) :
    ∃ l : List α, len = l.length ∧ len ≤ cap ∧ len ≤ 9223372036854775807 ∧ (∀ a ∈ l, Good a) ∧ Els ec k W W.heap.size a0 l := by
  obtain ⟨fuel, hf⟩ := h0
  rcases Deep.open_slice hT hf with ⟨hcs, _⟩ | ⟨a, len', cap', m, n, D, Pl, hcs, _, hl, hm, hmm, _, hi⟩
  · simp [Value.cells] at hcs
    obtain ⟨rfl, rfl, rfl⟩ := hcs
    exact ⟨[], rfl, Nat.le_refl _, by omega, by simp, fun i a ha => by simp at ha⟩
  · simp [Value.cells] at hcs
    obtain ⟨rfl, rfl, rfl⟩ := hcs
    simp only [if_true] at hmm
    subst hmm
    suffices HH : ∀ i, i < len → ∃ x, Good x ∧ ∃ b o, (some a : Option Addr) = some ⟨b, o, none⟩ ∧ b < W.heap.size ∧ ∀ j u, (ec x)[j]? = some u → W.cell? ⟨b, o + i * k + j, none⟩ = some u by
      obtain ⟨f, hf⟩ := pick_fun dflt HH
      have hget : ∀ i x, ((List.range len).map f)[i]? = some x → i < len ∧ x = f i := fun i x hx => by
        have hi' : i < len := by
          rcases Nat.lt_or_ge i len with h1 | h1
          · exact h1
          · rw [List.getElem?_eq_none (by simpa using h1)] at hx; cases hx
        simp [hi'] at hx
        exact ⟨hi', hx.symm⟩
      refine ⟨(List.range len).map f, by simp, hl, by unfold maxLen at hm; omega, fun x hx => ?_, fun i x hx => ?_⟩
      · obtain ⟨i, hi'⟩ := List.mem_iff_getElem?.1 hx
        obtain ⟨h1, rfl⟩ := hget i x hi'
        exact (hf i h1).1
      · obtain ⟨h1, rfl⟩ := hget i x hx
        exact (hf i h1).2
    intro i hi'
    have hsp : a.spot = none ∧ a.block < W.heap.size := by
      obtain ⟨cs0, hc0, _⟩ := hi 0 (by omega)
      rw [he] at hc0
      obtain ⟨_, hlen0, hat0⟩ := World.cells?_some hc0
      have g0 := hat0 0 (by omega)
      rw [List.getElem?_eq_getElem (by omega)] at g0
      exact ⟨World.cell?_spot (by simpa [Addr.add] using g0), by simpa [Addr.add] using World.block_lt_of_cell? _ _ g0⟩
    obtain ⟨b, o, sp⟩ := a
    simp only at hsp
    obtain ⟨rfl, hblt⟩ := hsp
    obtain ⟨cs', hc, ht⟩ := hi i (by omega)
    rw [he] at hc
    obtain ⟨_, hlen, hat⟩ := World.cells?_some hc
    obtain ⟨x, hg, rfl⟩ := hel _ _ _ ht hlen
    refine ⟨x, hg, b, o, rfl, hblt, fun j u hu => ?_⟩
    have hj : j < k := by
      rcases Nat.lt_or_ge j k with h1 | h1
      · exact h1
      · rw [List.getElem?_eq_none (by omega)] at hu; cases hu
    have hx := hat j hj
    rw [Addr.add_lit, Addr.add_lit] at hx
    rw [hx]
    exact hu
theorem cellsI : Try.prog.cellsOf 3 = 1 := by kernel_rfl
theorem cellsStr : Try.prog.cellsOf 9 = 1 := by kernel_rfl
/-- an act -/
structure Ac where
  kd : Int
  p : Int
  now : Int
  n : Int
def Ac.cells (a : Ac) : List Value := [.int .i64 a.kd, .int .i64 a.p, .int .i64 a.now, .int .i64 a.n]
theorem arg_acts {H : Type} {enc : TypeId × Value → H} {W : World} {a0 : Option Addr} {len cap : Nat} {d0 : DataW H} {p : List MemPlace}
    (h0 : DataW.Trod enc Try.prog W 0 (fun _ => true) true 23 (.slice a0 len cap) d0 p) :
    ∃ l : List Ac, len = l.length ∧ len ≤ cap ∧ len ≤ 9223372036854775807 ∧ (∀ a ∈ l, True) ∧ Els Ac.cells 4 W W.heap.size a0 l := by
  refine arg_els ⟨0, 0, 0, 0⟩ Ac.cells (fun _ => True) 4 (by omega) Try.underlying23 (by kernel_rfl) (fun fuel cs x ht hl => ?_) h0
  obtain ⟨ys, n', _, _, _, hyl, hfld⟩ := DataW.trod_struct Try.underlying31 ht
  simp only [List.size_toArray, List.length_cons, List.length_nil, Nat.reduceAdd] at hyl
  have e0 : DataW.trod enc Try.prog W 0 (fun _ => true) true n' 3 ((cs.drop 0).take (Try.prog.cellsOf 3)) = ys[0]? := hfld 0 _ rfl
  have e1 : DataW.trod enc Try.prog W 0 (fun _ => true) true n' 3 ((cs.drop 1).take (Try.prog.cellsOf 3)) = ys[1]? := hfld 1 _ rfl
  have e2 : DataW.trod enc Try.prog W 0 (fun _ => true) true n' 3 ((cs.drop 2).take (Try.prog.cellsOf 3)) = ys[2]? := hfld 2 _ rfl
  have e3 : DataW.trod enc Try.prog W 0 (fun _ => true) true n' 3 ((cs.drop 3).take (Try.prog.cellsOf 3)) = ys[3]? := hfld 3 _ rfl
  match cs, hl, ys, hyl with
  | [c0, c1, c2, c3], _, [y0, y1, y2, y3], _ =>
    simp only [cellsI, List.drop_zero, List.drop_succ_cons, List.take_succ_cons, List.take_zero, List.getElem?_cons_zero, List.getElem?_cons_succ] at e0 e1 e2 e3
    obtain ⟨x0, q0, _, w0⟩ := DataW.trod_int Try.underlying3 e0
    obtain ⟨x1, q1, _, w1⟩ := DataW.trod_int Try.underlying3 e1
    obtain ⟨x2, q2, _, w2⟩ := DataW.trod_int Try.underlying3 e2
    obtain ⟨x3, q3, _, w3⟩ := DataW.trod_int Try.underlying3 e3
    simp only [List.cons.injEq, and_true] at q0 q1 q2 q3
    subst q0 q1 q2 q3
    exact ⟨⟨x0, x1, x2, x3⟩, trivial, rfl⟩
theorem arg_parties {H : Type} {enc : TypeId × Value → H} {W : World} {a0 : Option Addr} {len cap : Nat} {d0 : DataW H} {p : List MemPlace}
    (h0 : DataW.Trod enc Try.prog W 0 (fun _ => true) true 22 (.slice a0 len cap) d0 p) :
    ∃ l : List Pty, len = l.length ∧ len ≤ cap ∧ len ≤ 9223372036854775807 ∧ (∀ a ∈ l, a.nm.size ≤ 9223372036854775807) ∧ Els Pty.cells 5 W W.heap.size a0 l := by
  refine arg_els ⟨⟨#[]⟩, 0, 0, 0, 0⟩ Pty.cells (fun a => a.nm.size ≤ 9223372036854775807) 5 (by omega) Try.underlying22 (by kernel_rfl) (fun fuel cs x ht hl => ?_) h0
  obtain ⟨ys, n', _, _, _, hyl, hfld⟩ := DataW.trod_struct Try.underlying37 ht
  simp only [List.size_toArray, List.length_cons, List.length_nil, Nat.reduceAdd] at hyl
  have e0 : DataW.trod enc Try.prog W 0 (fun _ => true) true n' 9 ((cs.drop 0).take (Try.prog.cellsOf 9)) = ys[0]? := hfld 0 _ rfl
  have e1 : DataW.trod enc Try.prog W 0 (fun _ => true) true n' 3 ((cs.drop 1).take (Try.prog.cellsOf 3)) = ys[1]? := hfld 1 _ rfl
  have e2 : DataW.trod enc Try.prog W 0 (fun _ => true) true n' 3 ((cs.drop 2).take (Try.prog.cellsOf 3)) = ys[2]? := hfld 2 _ rfl
  have e3 : DataW.trod enc Try.prog W 0 (fun _ => true) true n' 3 ((cs.drop 3).take (Try.prog.cellsOf 3)) = ys[3]? := hfld 3 _ rfl
  have e4 : DataW.trod enc Try.prog W 0 (fun _ => true) true n' 3 ((cs.drop 4).take (Try.prog.cellsOf 3)) = ys[4]? := hfld 4 _ rfl
  match cs, hl, ys, hyl with
  | [c0, c1, c2, c3, c4], _, [y0, y1, y2, y3, y4], _ =>
    simp only [cellsI, cellsStr, List.drop_zero, List.drop_succ_cons, List.take_succ_cons, List.take_zero, List.getElem?_cons_zero, List.getElem?_cons_succ] at e0 e1 e2 e3 e4
    obtain ⟨x0, q0, _, w0⟩ := DataW.trod_string Try.underlying9 e0
    obtain ⟨x1, q1, _, w1⟩ := DataW.trod_int Try.underlying3 e1
    obtain ⟨x2, q2, _, w2⟩ := DataW.trod_int Try.underlying3 e2
    obtain ⟨x3, q3, _, w3⟩ := DataW.trod_int Try.underlying3 e3
    obtain ⟨x4, q4, _, w4⟩ := DataW.trod_int Try.underlying3 e4
    simp only [List.cons.injEq, and_true] at q0 q1 q2 q3 q4
    subst q0 q1 q2 q3 q4
    exact ⟨⟨x0, x1, x2, x3, x4⟩, by unfold maxLen at w0; exact by omega, rfl⟩
/-! ### few -/
def fewB (ps : List Pty) : Bool := decide (ps.length ≤ 70) && ps.all fun p => decide (p.nm.size ≤ 100)
theorem fewB_yes {ps : List Pty} (h : fewB ps = true) : ∀ p ∈ ps, p.nm.size ≤ 100 := by
  unfold fewB at h
  simp only [Bool.and_eq_true, List.all_eq_true, decide_eq_true_eq] at h
  exact h.2
set_option maxHeartbeats 1000000 in
theorem few_any (A : Option Addr) (ps : List Pty) (c : Nat) (w : World) (h : Els Pty.cells 5 w w.heap.size A ps) (hs : ∀ p ∈ ps, p.nm.size ≤ 9223372036854775807) (hn : ps.length ≤ 9223372036854775807) :
    Calls Try.prog 6 #[.slice A ps.length c] w fun e w' => e = .returned (.bool (fewB ps)) ∧ w = w' := by
  obtain ⟨n, hnn⟩ : ∃ n, n = ps.length := ⟨_, rfl⟩
  by_cases h70 : 70 < n
  · have hf : fewB ps = false := by unfold fewB; rw [decide_eq_false (by omega)]; rfl
    rw [hf, ← hnn]
    rw [← hnn] at hn
    clear h hs hnn hf
    go_enter Try.func6, Try.ntmps6
    go_wp2
    go_ret
    exact ⟨rfl, rfl⟩
  have HL := Lib.hid hnn
  have HH := Lib.hid h
  have HS := Lib.hid hs
  rw [← hnn]
  rw [← hnn] at hn
  clear h hs hnn
  go_enter Try.func6, Try.ntmps6
  go_wp2
  go_loopw [3] (fun vi wr => ∃ k : Nat, vi = .int .i64 (k : Int) ∧ k ≤ n ∧ wr = w ∧ Hid (∀ i p, i < k → ps[i]? = some p → p.nm.size ≤ 100)) (fun vi _ => n - (intOf vi).toNat)
  case atStart => exact ⟨0, rfl, Nat.zero_le _, rfl, Lib.hid fun i p hi => absurd hi (by omega)⟩
  case round =>
    obtain ⟨k, rfl, hk, rfl, HI⟩ := hrel
    by_cases hkn : k < n
    · obtain ⟨p, hp⟩ : ∃ p, ps[k]? = some p := ⟨_, List.getElem?_eq_getElem (by have := HL.out; omega)⟩
      obtain ⟨b, o, rfl, hbl⟩ := HH.out.at_ hp
      have c0 := HH.out.get hp 0 (u := .string p.nm) rfl
      rw [Nat.add_zero] at c0
      have HP := Lib.hid hp
      have hsz := HS.out p (List.mem_of_getElem? hp)
      clear hp
      by_cases h100 : 100 < p.nm.size
      · have hf : Hid (fewB ps = false) := Lib.hid (by
          cases e : fewB ps with
          | false => rfl
          | true => have := fewB_yes e p (List.mem_of_getElem? HP.out); omega)
        go_wp2
        go_ret
        exact ⟨ret_bool hf.out.symm, rfl⟩
      · have HN : Hid (∀ i q, i < k + 1 → ps[i]? = some q → q.nm.size ≤ 100) := Lib.hid fun i q hi hq => by
          by_cases e : i = k
          · subst e
            rw [HP.out] at hq
            injection hq with hq
            subst hq
            omega
          · exact HI.out i q (by omega) hq
        go_wp2
        go_roundw
        case rel => exact ⟨k + 1, by go_num, by omega, trivial, HN⟩
        case measure => simp [intOf]; omega
    · have hf : Hid (fewB ps = true) := Lib.hid (by
        unfold fewB
        simp only [Bool.and_eq_true, List.all_eq_true, decide_eq_true_eq]
        refine ⟨by have := HL.out; omega, fun p hp => ?_⟩
        obtain ⟨i, hi⟩ := List.mem_iff_getElem?.1 hp
        have hil : i < ps.length := by
          rcases Nat.lt_or_ge i ps.length with h1 | h1
          · exact h1
          · rw [List.getElem?_eq_none h1] at hi; cases hi
        exact HI.out i p (by have := HL.out; omega) hi)
      obtain rfl : n = k := by omega
      go_wp2
      go_ret
      exact ⟨ret_bool hf.out.symm, rfl⟩
end Go.Proofs.Ytapnnlebokcmgaa.Gd
