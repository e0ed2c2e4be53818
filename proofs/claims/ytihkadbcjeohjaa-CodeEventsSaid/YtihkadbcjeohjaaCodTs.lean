/-
  Where a call that takes a whole stands: the reader, the block that it is named in, and the block of what is taken.
  Conditions: as each theorem names them.
-/
import Derived.Test.YtihkadbcjeohjaaCodTaken
namespace Go.Proofs.Ytihkadbcjeohjaa.Co
open Go.RowKit
open Go.Proofs.Ytihkadbcjeohjaa.El
open Go.Proofs.Ytihkadbcjeohjaa.Df
open Go.Proofs.Ytihkadbcjeohjaa.Bo (P Made ret_int ret_bool)
open Go.Proofs.Ytihkadbcjeohjaa.Sa (Sg Rp)

/-- no byte among the cells -/
def noU (cs : Array Value) : Bool := cs.all fun v => match v with
  | .int .u8 _ => false
  | _ => true
theorem noU_at {cs : Array Value} (h : noU cs = true) {j : Nat} {n : Int} : cs[j]? ≠ some (.int .u8 n) := fun e => by
  unfold noU at h
  obtain ⟨hj, he⟩ := Array.getElem?_eq_some_iff.1 e
  have := Array.all_eq_true.1 h j hj
  rw [he] at this
  cases this
section
variable {w u v : World} {g x q : Nat} {l : List UInt8} {s t : Ps} {cs cs' : Array Value} {ty : TypeId}
theorem Rd.apart {p o e : Nat} (h : Rd u g l p o e) (hb : Box u x ty cs) (hn : noU cs = true) (hx : x ≠ g) {v : World} (hv : ∀ i, i ≠ x → v.heap[i]? = u.heap[i]?) : Rd v g l p o e := by
  obtain ⟨A, c, hc, hbx, hy⟩ := h.box
  refine ⟨h.le, h.small, h.none, A, c, hc, (hv g (Ne.symm hx)).trans hbx, fun hl => ?_⟩
  obtain ⟨b, o', e', hlt, hcell⟩ := hy hl
  have hbx' : b ≠ x := by
    rintro rfl
    have h0 := hcell 0 (List.length_pos_iff.2 hl)
    rw [hb.cell] at h0
    exact noU_at hn h0
  exact ⟨b, o', e', hlt, fun k hk => (World.cell?_of_block (hv b hbx')).trans (hcell k hk)⟩
/-- where it stands: the reader at g, named at q; x: what is taken, so far -/
structure Ts (w u : World) (q g x : Nat) (l : List UInt8) (s : Ps) (ty : TypeId) (cs : Array Value) : Prop where
  rd : RdAt u u g l s
  rb : Box u q 80 #[.pointer (some ⟨g, 0, none⟩)]
  xb : Box u x ty cs
  bel : Below w.heap.size w u
  lg : w.heap.size ≤ g
  lx : w.heap.size ≤ x
  lq : w.heap.size ≤ q
  qg : q ≠ g
  xg : x ≠ g
  xq : x ≠ q
theorem Ts.cell (h : Ts w u q g x l s ty cs) : u.cell? ⟨q, 0, none⟩ = some (.pointer (some ⟨g, 0, none⟩)) := h.rb.cell 0
theorem grown_bel {row : Option Nat} (h : Below w.heap.size w u) (hg : u.grownBy v row) (hr : ∀ i, row = some i → w.heap.size ≤ i) : Below w.heap.size w v :=
  h.grown hg h.size hr
theorem Ts.call (h : Ts w u q g x l s ty cs) (k : RdAt u v g l t) : Ts w v q g x l t ty cs :=
  ⟨RdAt.refl k.rd (Nat.lt_of_lt_of_le k.lt k.size), k.box h.rb h.qg, k.box h.xb h.xg, grown_bel h.bel k.gr (fun i hi => by injection hi with hi; have := h.lg; omega), h.lg, h.lx, h.lq, h.qg, h.xg, h.xq⟩
theorem Ts.below (h : Ts w u q g x l s ty cs) (hb : Below u.heap.size u v) : Ts w v q g x l s ty cs :=
  h.call (h.rd.below hb)
theorem Ts.drew (h : Ts w u q g x l s ty cs) : Ts w u.drew q g x l s ty cs := h.call h.rd.drew
theorem Ts.put (h : Ts w u q g x l s ty cs) (hn : noU cs = true) (i : Nat) (y : Value) : Ts w (u.setCell ⟨x, i, none⟩ y) q g x l s ty (cs.setIfInBounds i y) := by
  have hv : ∀ j, j ≠ x → (u.setCell ⟨x, i, none⟩ y).heap[j]? = u.heap[j]? := fun j hj => Below.heap_setCell u ⟨x, i, none⟩ y j hj
  have hs : (u.setCell ⟨x, i, none⟩ y).heap.size = u.heap.size := by simp [World.setCell]
  exact ⟨RdAt.refl (Rd.apart h.rd.rd h.xb hn h.xg hv) (by rw [hs]; exact h.rd.lt), (hv q (Ne.symm h.xq)).trans h.rb, h.xb.put i y, h.bel.setCell (p := ⟨x, i, none⟩) h.lx y, h.lg, h.lx, h.lq, h.qg, h.xg, h.xq⟩
theorem Ts.row (h : Ts w u q g x l s ty cs) (hn : noU cs = true) (cs' : Array Value) : Ts w (u.setRow x cs') q g x l s ty cs' := by
  have hv : ∀ j, j ≠ x → (u.setRow x cs').heap[j]? = u.heap[j]? := fun j hj => setRow_other u x j cs' hj
  exact ⟨RdAt.refl (Rd.apart h.rd.rd h.xb hn h.xg hv) (by rw [setRow_size]; exact h.rd.lt), (hv q (Ne.symm h.xq)).trans h.rb, box_set h.xb cs', below_putRow h.bel h.lx cs', h.lg, h.lx, h.lq, h.qg, h.xg, h.xq⟩
theorem Ts.as (h : Ts w u q g x l s ty cs) (e : cs = cs') : Ts w u q g x l s ty cs' := e ▸ h
end
end Go.Proofs.Ytihkadbcjeohjaa.Co
