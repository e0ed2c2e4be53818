/-
  What add answers and leaves: a gate more, behind the others; or which fault a party has.
  Conditions: the guard is one, and has at most 63 parties.
-/
import Derived.Test.YtapnnlebokcmgaaGrdFind
import Derived.Maps.AppendAt
import Derived.Deep.RegionHeld3
namespace Go.Proofs.Ytapnnlebokcmgaa.Gd
open Go.RowKit
open Go.Proofs.Ytapnnlebokcmgaa.Bk (S Brk Aft kind ret_int ret_bool)
section
variable {P : Program}
theorem wp_append_at (w : World) {o : Oper} {a : Act} {K : Act → World → Prop} {Q : Exit → Act → World → Prop} (s x : Operand) (t : TypeId)
    (ho : o.op = .call { callee := .builtin .append, args := #[s, x], argTypes := #[t, t] })
    (base : Nat) (e : TypeId) (i : TypeInfo) (z : Value) (size bytes : Nat) (ht : P.underlying t = some (.slice e)) (hi : P.info? e = some i) (hz : i.zero = some z)
    (hsize : i.size = size) (hby : i.bytes = bytes) (hzs : z.cells.size = size) (hsz : 0 < size)
    (v : Value) (n : Nat) (xs : List Value) (hs : a.eval s = v) (hown : w.ownsRow base e size v n xs)
    (ad : Addr) (m c : Nat) (news : List Value) (hx : a.eval x = .slice (some ad) m c) (hl : news.length = m * size) (hnews : ∀ j u, news[j]? = some u → w.cell? (ad.add j) = some u) (h1 : ∀ u ∈ news, u.oneCell' = true)
    (h63 : n + m ≤ maxLen) (hbytes : (n + m) * bytes ≤ 140737488355328) (hbase : base ≤ w.heap.size)
    (h : ∀ v' w', w'.ownsRow base e size v' (n + m) (xs ++ news) → w.grownBy w' v.ownBlock → (v'.ownBlock = v.ownBlock ∨ v'.ownBlock = some w.heap.size) → K (a.put o.dst v') w') : o.wp P a w K Q := by
  obtain ⟨v', w', hr, h2, h3, _, h5⟩ := run_append_own_at (P := P) w base t o.type e i z size bytes ht hi hz hsize hby hzs hsz v n xs hown ad m c news hl hnews h1 h63 hbytes hbase
  unfold Oper.wp execOp
  simp only [ho, resolve, invoke, builtin, Sem.run_bind, Sem.run_pure, Result.andThen_ok, List.map_toArray, List.map_cons, List.map_nil, hs, hx, hr]
  exact h v' w' h2 h3 h5
theorem step_append_at (w : World) {ops : Array Oper} {o : Oper} {a : Act} {K : Act → World → Prop} {Q : Exit → Act → World → Prop} {E : Prop} (hgd : o.guard = none) (s x : Operand) (t : TypeId)
    (ho : o.op = .call { callee := .builtin .append, args := #[s, x], argTypes := #[t, t] })
    (base : Nat) (e : TypeId) (i : TypeInfo) (z : Value) (size bytes : Nat) (ht : P.underlying t = some (.slice e)) (hi : P.info? e = some i) (hz : i.zero = some z)
    (hsize : i.size = size) (hby : i.bytes = bytes) (hzs : z.cells.size = size) (hsz : 0 < size)
    (v : Value) (n : Nat) (xs : List Value) (hs : a.eval s = v) (hown : w.ownsRow base e size v n xs)
    (ad : Addr) (m c : Nat) (news : List Value) (hx : a.eval x = .slice (some ad) m c) (hl : news.length = m * size) (hnews : ∀ j u, news[j]? = some u → w.cell? (ad.add j) = some u) (h1 : ∀ u ∈ news, u.oneCell' = true)
    (h63 : n + m ≤ maxLen) (hbytes : (n + m) * bytes ≤ 140737488355328) (hbase : base ≤ w.heap.size)
    (h : ∀ v' w', w'.ownsRow base e size v' (n + m) (xs ++ news) → w.grownBy w' v.ownBlock → (v'.ownBlock = v.ownBlock ∨ v'.ownBlock = some w.heap.size) → K (a.put o.dst v') w') :
    if Region.wanted o (yielded ops a.tmps) = true then Oper.wp P o a w K Q else E := by
  have hw : Region.wanted o (yielded ops a.tmps) = true := by simp [Region.wanted, hgd]
  rw [if_pos hw]
  exact wp_append_at w s x t ho base e i z size bytes ht hi hz hsize hby hzs hsz v n xs hs hown ad m c news hx hl hnews h1 h63 hbytes hbase h
end
theorem info_parts {o : Option TypeInfo} {z : Option Value} {a b : Nat} (h : o.map (fun i => (i.zero, i.size, i.bytes)) = some (z, a, b)) : ∃ i, o = some i ∧ i.zero = z ∧ i.size = a ∧ i.bytes = b := by
  cases o with
  | none => cases h
  | some i =>
    simp only [Option.map_some, Option.some.injEq, Prod.mk.injEq] at h
    exact ⟨i, rfl, h.1, h.2.1, h.2.2⟩
/-- a gate of nothing -/
def zeroG : Value := .agg #[.pointer none, .string ⟨#[]⟩, .int .i64 0, .int .i64 0, .int .i64 0, .int .i64 0, .int .i64 0]
theorem infoG : (Try.prog.info? 48).map (fun i => (i.zero, i.size, i.bytes)) = some (some zeroG, 7, 64) := by kernel_rfl
theorem new_cells (w : World) (x : Rt) (t : TypeId) : ∀ j u, x.cells[j]? = some u → (w.alloc (.cells x.cells.toArray t)).cell? ((⟨w.heap.size, 0, none⟩ : Addr).add j) = some u := by
  intro j u hj
  rw [Addr.add_lit, Nat.zero_add, (Box.new w t x.cells.toArray).cell j]
  simpa using hj
section
variable {w : World} {g : Nat} {X : Nat → Prop} {v : Value} {rs : List Rt}
theorem Raw.grew (h : Raw w g X v rs) (hl : rs.length ≤ 63) {x : Rt} (hB : Brk w x.b x.t.s) (ho : ¬ Own g v rs x.b) (hX : ¬ X x.b) (hok : x.t.Ok) {q : Nat} {w4 : World} {o : Obj} {v' : Value}
    (hg4 : ((w.drewN q).alloc o).grownBy w4 v.ownBlock) (ho4 : w4.ownsRow 0 48 7 v' (rs.length + 1) (cellsG rs ++ x.cells)) (hat : v'.ownBlock = v.ownBlock ∨ v'.ownBlock = some (w.heap.size + 1)) :
    Raw (w4.setCell ⟨g, 0, none⟩ v') g X v' (rs ++ [x]) ∧ Keep X w (w4.setCell ⟨g, 0, none⟩ v') := by
  have hgl := h.box.lt
  have hsz : (w.drewN q).heap.size = w.heap.size := rfl
  have hb4 : ∀ i, i < w.heap.size → v.ownBlock ≠ some i → w4.heap[i]? = w.heap[i]? := fun i hi h1 =>
    (hg4.block i (by rw [World.size_alloc, hsz]; omega) (fun e => h1 e.symm)).trans (Below.heap_alloc (w.drewN q) o i (by rw [hsz]; exact hi))
  have hbf : ∀ i, i < w.heap.size → i ≠ g → v.ownBlock ≠ some i → (w4.setCell ⟨g, 0, none⟩ v').heap[i]? = w.heap[i]? := fun i hi h0 h1 =>
    (Below.heap_setCell w4 ⟨g, 0, none⟩ v' i h0).trans (hb4 i hi h1)
  have hsf : (w4.setCell ⟨g, 0, none⟩ v').heap.size = w4.heap.size := by simp [World.setCell]
  have hs4 := hg4.size
  rw [World.size_alloc, hsz] at hs4
  have hvg : v'.ownBlock ≠ some g := fun e => by
    rcases hat with h1 | h1
    · exact h.gr (h1 ▸ e)
    · rw [h1] at e; injection e with e; omega
  have hxb := hB.box.lt
  have hvx : v.ownBlock ≠ some x.b := fun e => ho (.inr (.inl e))
  have hxg : x.b ≠ g := fun e => ho (.inl e)
  have hbox : Box (w4.setCell ⟨g, 0, none⟩ v') g 42 #[v'] := by
    have h1 : Box w4 g 42 #[v] := (hb4 g hgl h.gr).trans h.box
    exact h1.put 0 v'
  refine ⟨⟨hbox, ?_, fun y hy => ?_, ?_, fun y hy => ?_, by simp; omega, h.xg, fun i hi => ?_, fun y hy => ?_, fun i hi => by have := h.xlt i hi; omega⟩, ⟨hg4.os, hg4.tape, hg4.output, by omega, fun i hi hx => hbf i hi (fun e => h.xg (e ▸ hx)) (fun e => h.xr i e hx)⟩⟩
  · have := ho4.kept (setCell_only w4 g 0 v') (.inr hvg)
    rw [List.length_append, cellsG_app]
    simpa [cellsG] using this
  · rcases List.mem_append.1 hy with h1 | h1
    · exact brk_stay (h.brk y h1) (hbf _ (h.brk y h1).box.lt (h.gb h1) (h.br h1))
    · rw [List.mem_singleton.1 h1]
      exact brk_stay hB (hbf _ hxb hxg hvx)
  · rw [List.map_append, List.nodup_append]
    refine ⟨h.nd, by simp, ?_⟩
    intro a ha b hb
    simp only [List.map_cons, List.map_nil, List.mem_singleton] at hb
    obtain ⟨y, hy, rfl⟩ := List.mem_map.1 ha
    rw [hb]
    exact fun e => ho (.inr (.inr ⟨y, hy, e⟩))
  · rcases List.mem_append.1 hy with h1 | h1
    · exact h.ok y h1
    · rw [List.mem_singleton.1 h1]; exact hok
  · rcases hat with h1 | h1
    · exact h.xr i (h1 ▸ hi)
    · rw [h1] at hi
      injection hi with hi
      exact fun hx => by have := h.xlt i hx; omega
  · rcases List.mem_append.1 hy with h1 | h1
    · exact h.xb y h1
    · rw [List.mem_singleton.1 h1]; exact hX
end
end Go.Proofs.Ytapnnlebokcmgaa.Gd
