/-
  Arguments, opened with the form's reach: a definition by value, whose texts have at most 2^47 bytes; a saga, an act, a slice of acts.
  Conditions: none.
-/
import Derived.Test.YtkmldgcnbjjbcaaGreatDoorDefMem
import Derived.Test.YtkmldgcnbjjbcaaGreatDoorSagMem
import Derived.SizedLaws
namespace Go.Proofs.YtkmldgcnbjjbcaaGreatDoor.Sa
open Go.ChangeShapes Go.WideShapes Go.ChangeAt Go.RowKit
open Go.Proofs.YtkmldgcnbjjbcaaGreatDoor.El
open Go.Proofs.YtkmldgcnbjjbcaaGreatDoor.Bo (P)
open Go.Proofs.YtkmldgcnbjjbcaaGreatDoor.Df

theorem fits {k : IntKind} {a lo hi : Int} (h : (Lit.int k a).wf = true) (hl : k.min = lo) (hh : k.max = hi) : lo ≤ a ∧ a ≤ hi := by
  simp only [Lit.wf, Bool.and_eq_true, decide_eq_true_eq] at h
  omega
theorem weightsAll_mem {H : Type} {P : Program} {e : TypeId} : ∀ {l : List (DataW H)} {d : DataW H}, d ∈ l → ∀ n ∈ d.weights P e, n ∈ DataW.weightsAll P e l
  | d0 :: l, d, hd, n, hn => by
    simp only [DataW.weightsAll, List.mem_append]
    rcases List.mem_cons.1 hd with rfl | hd
    · exact .inl hn
    · exact .inr (weightsAll_mem hd n hn)
theorem els_of_w {P : Program} {H : Type} {enc : TypeId × Value → H} {W : World} {cs : List Value} {y : DataW H × List MemPlace} {U e : TypeId} {fuel : Nat} {α : Type} (dflt : α) (ec : α → List Value) (Good : α → Prop) (k : Nat) (k0 : 0 < k) (R : Nat) (hT : P.underlying U = some (.slice e)) (he : P.cellsOf e = k)
    (hel : ∀ fuel cs x, DataW.trod enc P W 0 (fun _ => true) true fuel e cs = some x → cs.length = k → (∀ m ∈ x.1.weights P e, m ≤ R) → ∃ a, Good a ∧ cs = ec a)
    (hf : DataW.trod enc P W 0 (fun _ => true) true fuel U cs = some y) (hw : ∀ m ∈ y.1.weights P U, m ≤ R) :
    ∃ (a0 : Option Addr) (len cap : Nat) (l : List α), cs = [.slice a0 len cap] ∧ len = l.length ∧ len ≤ cap ∧ len ≤ 9223372036854775807 ∧ (∀ a ∈ l, Good a) ∧ Els ec k W W.heap.size a0 l ∧ (a0 = none → len = 0 ∧ cap = 0) := by
  rcases Deep.open_slice hT hf with ⟨rfl, _⟩ | ⟨a, len', cap', m, n, D, Pl, rfl, _, hl, hm, hmm, hy, hi⟩
  · exact ⟨none, 0, 0, [], rfl, rfl, Nat.le_refl _, by omega, by simp, fun i a ha => by simp at ha, fun _ => ⟨rfl, rfl⟩⟩
  · simp only [if_true] at hmm
    subst hmm
    have hwe : ∀ i, i < len' → ∀ q ∈ (D i).weights P e, q ≤ R := fun i hi' q hq => by
      refine hw q ?_
      rw [hy]
      simp only [DataW.weights, hT, List.mem_cons, List.mem_append]
      exact .inr (.inl (weightsAll_mem (List.mem_map.2 ⟨i, List.mem_range.2 hi', rfl⟩) q hq))
    suffices HH : ∀ i, i < len' → ∃ x, Good x ∧ ∃ b o, (some a : Option Addr) = some ⟨b, o, none⟩ ∧ b < W.heap.size ∧ ∀ j u, (ec x)[j]? = some u → W.cell? ⟨b, o + i * k + j, none⟩ = some u by
      obtain ⟨f, hf⟩ := pick_fun dflt HH
      have hget : ∀ i x, ((List.range len').map f)[i]? = some x → i < len' ∧ x = f i := fun i x hx => by
        have hi' : i < len' := by
          rcases Nat.lt_or_ge i len' with h1 | h1
          · exact h1
          · rw [List.getElem?_eq_none (by simpa using h1)] at hx; cases hx
        simp [hi'] at hx
        exact ⟨hi', hx.symm⟩
      refine ⟨some a, len', m, (List.range len').map f, rfl, by simp, hl, by unfold maxLen at hm; omega, fun x hx => ?_, fun i x hx => ?_, fun h => by cases h⟩
      · obtain ⟨i, hi'⟩ := List.mem_iff_getElem?.1 hx
        obtain ⟨h1, rfl⟩ := hget i x hi'
        exact (hf i h1).1
      · obtain ⟨h1, rfl⟩ := hget i x hx
        exact (hf i h1).2
    intro i hi'
    have hsp : a.spot = none ∧ a.block < W.heap.size := by
      obtain ⟨cs0, hc0, _⟩ := hi 0 (by omega)
      rw [he] at hc0
      obtain ⟨_, hlen0, hat0⟩ := World.cells?_some hc0
      have g0 := hat0 0 (by omega)
      rw [List.getElem?_eq_getElem (by omega)] at g0
      exact ⟨World.cell?_spot (by simpa [Addr.add] using g0), by simpa [Addr.add] using World.block_lt_of_cell? _ _ g0⟩
    obtain ⟨b, o, sp⟩ := a
    simp only at hsp
    obtain ⟨rfl, hblt⟩ := hsp
    obtain ⟨cs', hc, ht⟩ := hi i (by omega)
    rw [he] at hc
    obtain ⟨_, hlen, hat⟩ := World.cells?_some hc
    obtain ⟨x, hg, rfl⟩ := hel _ _ _ ht hlen (hwe i hi')
    refine ⟨x, hg, b, o, rfl, hblt, fun j u hu => ?_⟩
    have hj : j < k := by
      rcases Nat.lt_or_ge j k with h1 | h1
      · exact h1
      · rw [List.getElem?_eq_none (by omega)] at hu; cases hu
    have hx := hat j hj
    rw [Addr.add_lit, Addr.add_lit] at hx
    rw [hx]
    exact hu
/-- texts as large as they may be in memory that is there -/
def Big (s : Stp) : Prop := s.nm.size ≤ 140737488355328 ∧ s.pt.size ≤ 140737488355328
theorem size_text (s : ByteArray) : s.data.toList.length = s.size := Array.length_toList
set_option maxRecDepth 100000 in
theorem open_step_w {H : Type} {enc : TypeId × Value → H} {W : World} (fuel : Nat) (cs : List Value) (x : DataW H × List MemPlace) (h : DataW.trod enc Tryz.prog W 0 (fun _ => true) true fuel 56 cs = some x) (hl : cs.length = 12) (hw : ∀ m ∈ x.1.weights Tryz.prog 56, m ≤ reachBytes) :
    ∃ s : Stp, (s.Fits ∧ Big s) ∧ cs = s.cells := by
  have h' := h
  obtain ⟨ys, n', _, hx, _, hyl, hfld⟩ := DataW.trod_struct Tryz.underlying56 h
  obtain ⟨s, hs, hc⟩ := open_step fuel cs x h' hl
  refine ⟨s, ⟨hs, ?_⟩, hc⟩
  subst hc
  simp only [List.size_toArray, List.length_cons, List.length_nil, Nat.reduceAdd] at hyl
  have e0 : DataW.trod enc Tryz.prog W 0 (fun _ => true) true n' 9 ((s.cells.drop 0).take (Tryz.prog.cellsOf 9)) = ys[0]? := hfld 0 _ rfl
  have e1 : DataW.trod enc Tryz.prog W 0 (fun _ => true) true n' 9 ((s.cells.drop 1).take (Tryz.prog.cellsOf 9)) = ys[1]? := hfld 1 _ rfl
  match ys, hyl with
  | [y0, y1, y2, y3, y4, y5], _ =>
    simp only [cellsStr, Stp.cells, List.drop_zero, List.drop_succ_cons, List.take_succ_cons, List.take_zero, List.getElem?_cons_zero, List.getElem?_cons_succ] at e0 e1
    obtain ⟨x0, q0, r0, _⟩ := DataW.trod_string Tryz.underlying9 e0
    obtain ⟨x1, q1, r1, _⟩ := DataW.trod_string Tryz.underlying9 e1
    simp only [List.cons.injEq, and_true, Value.string.injEq] at q0 q1
    have hm : ∀ (z : DataW H × List MemPlace) (b : ByteArray), z ∈ [y0, y1] → z = (.lit (.string b.data.toList), []) → b.size ≤ reachBytes := fun z b hz hzb => by
      have := hw b.data.toList.length (by
        rw [hx]
        simp only [DataW.weights, Tryz.underlying56, List.map_cons, List.map_nil, DataW.weightsEach, List.mem_append]
        rcases List.mem_cons.1 hz with rfl | hz
        · rw [hzb]
          exact .inl (by simp [DataW.weights])
        · obtain rfl := List.mem_singleton.1 hz
          rw [hzb]
          exact .inr (.inl (by simp [DataW.weights])))
      rwa [size_text] at this
    have h0 := hm y0 x0 (by simp) r0
    have h1 := hm y1 x1 (by simp) r1
    unfold Big
    rw [q0, q1]
    exact ⟨Nat.le_trans h0 (by decide), Nat.le_trans h1 (by decide)⟩
set_option maxRecDepth 100000 in
/-- an argument: a definition by value -/
theorem arg_dn {H : Type} {enc : TypeId × Value → H} {W : World} {r : Reach} {base : Nat} {v : Value} {d : DataW H} {pl : List MemPlace} (hv : Value.okWide Tryz.prog W r base 24 v)
    (h : DataW.Trod enc Tryz.prog W 0 (fun _ => true) true 24 v d pl) (hw : ∀ m ∈ d.weights Tryz.prog 24, m ≤ reachBytes) :
    ∃ (nm : ByteArray) (dl : Int) (A : Option Addr) (c : Nat) (ss : List Stp), v = .agg #[.string nm, .int .i64 dl, .slice A ss.length c] ∧ nm.size ≤ 140737488355328 ∧ ss.length ≤ 9223372036854775807 ∧ ss.length ≤ c ∧ (∀ s ∈ ss, s.Fits ∧ Big s) ∧ Df.Steps W W.heap.size A ss := by
  obtain ⟨cs, rfl, hsz⟩ := okWide_struct Tryz.underlying24 hv
  rw [cellsD] at hsz
  obtain ⟨l⟩ := cs
  match l, hsz with
  | [c0, c1, c2], _ =>
  obtain ⟨fuel, hf⟩ := h
  obtain ⟨y0, y1, y2, m, hx, _, hy0, hy1, hy2⟩ := Deep.trod_struct3 Tryz.underlying24 hf
  obtain ⟨x0, e0, r0, w0⟩ := DataW.trod_string Tryz.underlying9 hy0
  obtain ⟨x1, e1, _, w1⟩ := DataW.trod_int Tryz.underlying3 hy1
  have hd : d = .agg [y0.1, y1.1, y2.1] := congrArg Prod.fst hx
  have hwd : ∀ q, q ∈ y0.1.weights Tryz.prog 9 ∨ q ∈ y2.1.weights Tryz.prog 22 → q ≤ reachBytes := fun q hq => hw q (by
    rw [hd]
    simp only [DataW.weights, Tryz.underlying24, List.map_cons, List.map_nil, DataW.weightsEach, List.mem_append]
    exact hq.elim .inl fun h => .inr (.inr (.inl h)))
  obtain ⟨a0, len, cap, ss, e2, hn, hc, hm, hg, hE, hnil⟩ := els_of_w (⟨⟨#[]⟩, ⟨#[]⟩, 0, ⟨0, 0, 0, 0⟩, ⟨0, 0, 0, 0⟩, 0⟩ : Stp) Stp.cells (fun s => s.Fits ∧ Big s) 12 (by omega) reachBytes Tryz.underlying22 (by kernel_rfl) open_step_w hy2 (fun q hq => hwd q (.inr hq))
  simp [Value.cells, cellsI, cellsStr, cellsSl] at e0 e1 e2
  subst e0 e1 e2 hn
  have h0 : x0.size ≤ reachBytes := by
    have := hwd x0.data.toList.length (.inl (by rw [r0]; simp [DataW.weights]))
    rwa [size_text] at this
  exact ⟨x0, x1, a0, cap, ss, rfl, Nat.le_trans h0 (by decide), hm, hc, hg, hE⟩
end Go.Proofs.YtkmldgcnbjjbcaaGreatDoor.Sa
