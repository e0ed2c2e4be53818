/-
  What the two laws of guards lean on: where their loops stand; what a Send says of the state ahead of it; what no deed turns.
  Conditions: none.
-/
import Derived.Test.YtapnnlebokcmgaaGrdAwake
namespace Go.Proofs.Ytapnnlebokcmgaa.Gd
open Go.RowKit
open Go.Proofs.Ytapnnlebokcmgaa.Bk (S Brk Aft kind ret_int ret_bool)
theorem set_self {α β : Type} (f : α → β) {l : List α} {i : Nat} {x y : α} (hx : l[i]? = some x) (hf : f y = f x) : (l.set i y).map f = l.map f := by
  apply List.ext_getElem?
  intro j
  rw [List.getElem?_map, List.getElem?_map, List.getElem?_set]
  split
  · next h =>
    subst h
    have hi : i < l.length := by
      rcases Nat.lt_or_ge i l.length with h1 | h1
      · exact h1
      · rw [List.getElem?_eq_none h1] at hx; cases hx
    rw [if_pos hi, hx]
    simp [hf]
  · rfl
theorem turn_map (L : List Gt) (p : Int) (ok : Gt → Bool) (f : Gt → Gt) (hf : ∀ x, (f x).p = x.p) : (turn L p ok f).map Gt.p = L.map Gt.p := by
  unfold turn
  cases h : at? L p with
  | none => rfl
  | some x =>
    show List.map Gt.p (if ok x then L.set p.toNat (f x) else L) = _
    split
    · refine set_self Gt.p (x := x) ?_ (hf x)
      unfold at? at h
      split at h
      · cases h
      · exact h
    · rfl
theorem sendG_p (L : List Gt) (p now : Int) : (sendG L p now).map Gt.p = L.map Gt.p := turn_map L p _ _ fun _ => rfl
theorem overG_p (L : List Gt) (p now how : Int) : (overG L p now how).map Gt.p = L.map Gt.p := turn_map L p _ _ fun _ => rfl
theorem resG_p (L : List Gt) (p k : Int) : (resG L p k).map Gt.p = L.map Gt.p := turn_map L p _ _ fun _ => rfl
/-- while a breaker is open nothing goes -/
theorem may_state {L : List Gt} {p now : Int} (h : mayG L p now = 0) : stateG L p now ≠ 1 := by
  unfold mayG ans at h
  unfold stateG ans
  cases hx : at? L p with
  | none => rw [hx] at h; cases h
  | some x =>
    rw [hx] at h
    have h1 : mayE x now = 0 := h
    show kind x.s now ≠ 1
    unfold mayE at h1
    split at h1
    · cases h1
    · split at h1
      · next h2 =>
        simp only [Bk.may, decide_eq_true_eq] at h2
        omega
      · cases h1
/-- where the laws' loops stand -/
structure St (w wr : World) (g B : Nat) (ps : List Pty) (L : List Gt) : Prop where
  le : w.heap.size ≤ B
  bel : Below w.heap.size w wr
  siz : B ≤ wr.heap.size
  grd : Grd wr g (fun i => i < B) L
  ps : L.map Gt.p = ps
theorem St.below {w wr w' : World} {g B : Nat} {ps : List Pty} {L : List Gt} (h : St w wr g B ps L) (hb : Below wr.heap.size wr w') : St w w' g B ps L :=
  ⟨h.le, h.bel.trans (hb.mono h.bel.size), Nat.le_trans h.siz hb.size, h.grd.below hb, h.ps⟩
theorem St.did {w wr w' : World} {g B : Nat} {ps : List Pty} {L L' : List Gt} (h : St w wr g B ps L) (hd : Did wr g (fun i => i < B) L' w') (hp : L'.map Gt.p = L.map Gt.p) : St w w' g B ps L' :=
  ⟨h.le, h.bel.trans (hd.2.below h.bel.size (fun _ hi => Nat.lt_of_lt_of_le hi h.le)), Nat.le_trans h.siz hd.2.size, hd.1, hp.trans h.ps⟩
theorem St.len {w wr : World} {g B : Nat} {ps : List Pty} {L : List Gt} (h : St w wr g B ps L) : L.length = ps.length := by rw [← h.ps, List.length_map]
/-- the gate of a party: it is right -/
theorem St.gate {w wr : World} {g B : Nat} {ps : List Pty} {L : List Gt} (h : St w wr g B ps L) {i : Nat} {p : Pty} (hp : ps[i]? = some p) : ∃ x, L[i]? = some x ∧ x.p = p ∧ x.Ok := by
  rw [← h.ps, List.getElem?_map] at hp
  cases hx : L[i]? with
  | none => rw [hx] at hp; cases hp
  | some x =>
    rw [hx] at hp
    simp only [Option.map_some, Option.some.injEq] at hp
    exact ⟨x, rfl, hp, h.grd.ok x (List.mem_of_getElem? hx)⟩
theorem fly_at {L : List Gt} {i : Nat} {x : Gt} (hx : L[i]? = some x) : flyG L (i : Int) = x.fl := by
  unfold flyG ans
  rw [at_nat, hx]
/-- what New makes, for a law: a guard of the parties, or none -/
theorem new_law {w w' : World} {ps : List Pty} {e : Ending} (h : NewIs w ps e w') (hn : ps.length ≤ 64) {w0 : World} (hw : Below w0.heap.size w0 w) :
    (∃ k er, er ≠ 0 ∧ e = .returned (.tuple #[.pointer none, .int .i64 k, .int .i64 er]) ∧ Below w0.heap.size w0 w') ∨
    ∃ g, e = .returned (.tuple #[.pointer (some ⟨g, 0, none⟩), .int .i64 (-1), .int .i64 0]) ∧ St w0 w' g w.heap.size ps (ps.map gnew) := by
  obtain ⟨hb, h⟩ := h
  have hB := hw.trans (hb.mono hw.size)
  rcases h with ⟨h1, _⟩ | ⟨_, k, p, _, _, h4, h5⟩ | ⟨_, _, g, _, h4, h5⟩
  · omega
  · exact .inl ⟨k, _, h4, h5, hB⟩
  · refine .inr ⟨g, h4, hw.size, hB, hb.size, h5, ?_⟩
    rw [List.map_map]
    conv => rhs; rw [← List.map_id ps]
    rfl
end Go.Proofs.Ytapnnlebokcmgaa.Gd
