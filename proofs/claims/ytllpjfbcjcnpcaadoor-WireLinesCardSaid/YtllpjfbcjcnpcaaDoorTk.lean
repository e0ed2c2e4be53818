/-
  The first steps of a drawn region in few words: an operation that only reads is taken first, its value reckoned on the spot.
  Conditions: none. It needs nothing of the program.
-/
import Derived.Test.YtllpjfbcjcnpcaaDoorUntil
import Derived.Deep.RegionHeld3
namespace Go.Proofs.YtllpjfbcjcnpcaaDoor.Un
open Go
section
variable {P : Program} {ops : Array Oper} {Q : Exit → Act → World → Prop} {md : Region.Mode} {S : World → Prop} {k : Nat}
/-- number i is taken first -/
theorem tk (i d : Nat) {op : Op} {ty : TypeId} {pos : String} {aft : Array Edge} {gd : Option (Nat × Bool)} {v : Value} {a a' : Act} {fuel : Nat} {listed : Array Bool} {w : World}
    (hi : ops[i]? = some ⟨some d, op, ty, pos, aft, gd⟩) (h : wpAnyH P md ops Q S fuel (listed.setIfInBounds i true) a' w) 
    (hs : Region.noSelect ops = true := by kernel_rfl) (hf : Region.free md ops listed i = true := by kernel_rfl) (hr : (Region.ready md ops listed).contains i = true := by kernel_rfl)
    (hw : Region.wanted ⟨some d, op, ty, pos, aft, gd⟩ (yielded ops a.tmps) = true := by rfl) (hS : S w := by assumption)
    (hy : ∀ u, S u → (execOp a.eval ⟨some d, op, ty, pos, aft, gd⟩).run P u = .ok (.value v) u := by (intro u hu; (try dsimp only at hu); go_simp; (try with_reducible rfl)))
    (ha : a.put (some d) v = a' := by ((try simp only [Act.put, List.setIfInBounds_toArray, List.set_cons_zero, List.set_cons_succ]); (try with_reducible rfl)))
    (hQ : ∀ c a w, Q (.panic c) (a.put (some d) v) w → Q (.panic c) a w := by exact fun _ _ _ h => h) :
    wpAnyH P md ops Q S (fuel + 1) listed a w := by
  subst ha
  exact wpAnyH_take hi hs hf hr hQ (Or.inl ⟨hw, hy⟩) hS h
/-- so, where what is held is held until number k -/
theorem utk (i d : Nat) (r : List Nat) {op : Op} {ty : TypeId} {pos : String} {aft : Array Edge} {gd : Option (Nat × Bool)} {v : Value} {a a' : Act} {fuel : Nat} {listed : Array Bool} {w : World}
    (hi : ops[i]? = some ⟨some d, op, ty, pos, aft, gd⟩) (h : wpAnyU P md ops Q S k fuel (listed.setIfInBounds i true) a' w) (hS : S w := by assumption)
    (hk : (i :: r).getLast (by simp) = k := by rfl) (hik : i ≠ k := by decide) (hc : chainB md ops listed i r = true := by kernel_rfl)
    (hs : Region.noSelect ops = true := by kernel_rfl) (hf : Region.free md ops listed i = true := by kernel_rfl) (hr : (Region.ready md ops listed).contains i = true := by kernel_rfl)
    (hw : Region.wanted ⟨some d, op, ty, pos, aft, gd⟩ (yielded ops a.tmps) = true := by rfl)
    (hy : ∀ u, S u → (execOp a.eval ⟨some d, op, ty, pos, aft, gd⟩).run P u = .ok (.value v) u := by (intro u hu; (try dsimp only at hu); go_simp; (try with_reducible rfl)))
    (ha : a.put (some d) v = a' := by ((try simp only [Act.put, List.setIfInBounds_toArray, List.set_cons_zero, List.set_cons_succ]); (try with_reducible rfl)))
    (hQ : ∀ c a w, Q (.panic c) (a.put (some d) v) w → Q (.panic c) a w := by exact fun _ _ _ h => h) :
    wpAnyU P md ops Q S k (fuel + 1) listed a w := by
  subst ha
  exact u_take r hk hik hi hs hf hr hc hQ (Or.inl ⟨hw, hy⟩) hS h
/-- an operation whose guard strikes it is passed over -/
theorem ofk (i d : Nat) {op : Op} {ty : TypeId} {pos : String} {aft : Array Edge} {gd : Option (Nat × Bool)} {a a' : Act} {fuel : Nat} {listed : Array Bool} {w : World}
    (hi : ops[i]? = some ⟨some d, op, ty, pos, aft, gd⟩) (h : wpAnyH P md ops Q S fuel (listed.setIfInBounds i true) a' w)
    (hs : Region.noSelect ops = true := by kernel_rfl) (hf : Region.free md ops listed i = true := by kernel_rfl) (hr : (Region.ready md ops listed).contains i = true := by kernel_rfl)
    (hw : Region.wanted ⟨some d, op, ty, pos, aft, gd⟩ (yielded ops a.tmps) = false := by rfl) (hS : S w := by assumption)
    (ha : a.put (some d) undef = a' := by ((try simp only [Act.put, List.setIfInBounds_toArray, List.set_cons_zero, List.set_cons_succ]); (try with_reducible rfl)))
    (hQ : ∀ c a w, Q (.panic c) (a.put (some d) undef) w → Q (.panic c) a w := by exact fun _ _ _ h => h) :
    wpAnyH P md ops Q S (fuel + 1) listed a w := by
  subst ha
  exact wpAnyH_take hi hs hf hr hQ (Or.inr ⟨hw, rfl⟩) hS h
end
end Go.Proofs.YtllpjfbcjcnpcaaDoor.Un
