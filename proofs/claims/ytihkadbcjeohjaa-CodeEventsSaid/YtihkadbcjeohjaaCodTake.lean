/-
  What the reader of parts takes: a definition.
  Conditions: the reader is one of bytes, at most 2^40.
-/
import Derived.Test.YtihkadbcjeohjaaCodRead
import Derived.Maps.AppendAt
namespace Go.Proofs.Ytihkadbcjeohjaa.Co
open Go.RowKit
open Go.Proofs.Ytihkadbcjeohjaa.El
open Go.Proofs.Ytihkadbcjeohjaa.Df
open Go.Proofs.Ytihkadbcjeohjaa.Bo (P Made ret_int ret_bool)
open Go.Proofs.Ytihkadbcjeohjaa.Sa (Sg Rp)

def cellsS (ss : List Stp) : List Value := ss.flatMap Stp.cells
theorem cellsS_len (ss : List Stp) : (cellsS ss).length = ss.length * 12 := by
  induction ss with
  | nil => rfl
  | cons x r ih =>
    show (x.cells ++ cellsS r).length = _
    rw [List.length_append, ih, List.length_cons]
    show 12 + _ = _
    omega
theorem cellsS_get (ss : List Stp) (i j : Nat) (hj : j < 12) : (cellsS ss)[i * 12 + j]? = match ss[i]? with | none => none | some x => x.cells[j]? := by
  induction ss generalizing i with
  | nil => simp [cellsS]
  | cons x r ih =>
    show (x.cells ++ cellsS r)[i * 12 + j]? = _
    have hl : x.cells.length = 12 := rfl
    cases i with
    | zero =>
      rw [List.getElem?_append_left (by omega)]
      simp
    | succ i =>
      rw [List.getElem?_append_right (by omega), hl, show (i + 1) * 12 + j - 12 = i * 12 + j by omega, ih i]
      simp
theorem cellsS_set (ss : List Stp) (i j : Nat) (u : Value) (hj : j < 12) {x x' : Stp} (hx : ss[i]? = some x) (he : x'.cells = x.cells.set j u) : (cellsS ss).set (i * 12 + j) u = cellsS (ss.set i x') := by
  induction ss generalizing i with
  | nil => simp at hx
  | cons y r ih =>
    have hl : y.cells.length = 12 := rfl
    show (y.cells ++ cellsS r).set (i * 12 + j) u = _
    cases i with
    | zero =>
      simp only [List.getElem?_cons_zero, Option.some.injEq] at hx
      subst hx
      rw [List.set_append_left _ _ (by omega)]
      show _ = x'.cells ++ cellsS r
      rw [he]
      simp
    | succ i =>
      rw [List.set_append_right _ _ (by omega), hl, show (i + 1) * 12 + j - 12 = i * 12 + j by omega, ih i (by simpa using hx)]
      rfl
theorem cells_one (x : Stp) : ∀ u ∈ x.cells, u.oneCell' = true := by
  intro u hu
  simp only [Stp.cells, List.mem_cons, List.not_mem_nil, or_false] at hu
  rcases hu with rfl | rfl | rfl | rfl | rfl | rfl | rfl | rfl | rfl | rfl | rfl | rfl <;> rfl
theorem cellsS_one (ss : List Stp) : ∀ u ∈ cellsS ss, u.oneCell' = true := by
  intro u hu
  obtain ⟨x, _, hx⟩ := List.mem_flatMap.1 hu
  exact cells_one x u hx
theorem steps_cells {w : World} {B : Nat} {a : Addr} {ss : List Stp} (h : Df.Steps w B (some a) ss) : ∀ j u, (cellsS ss)[j]? = some u → w.cell? (a.add j) = some u := by
  intro j u hu
  have hj : j < (cellsS ss).length := at_lt hu
  rw [cellsS_len] at hj
  have hd : j / 12 * 12 + j % 12 = j := by omega
  rw [← hd, cellsS_get ss _ _ (Nat.mod_lt _ (by decide))] at hu
  cases hs : ss[j / 12]? with
  | none => rw [hs] at hu; cases hu
  | some s =>
    rw [hs] at hu
    obtain ⟨b, o, e, _, hc⟩ := h _ _ hs
    injection e with e
    subst e
    have := hc (j % 12) u hu
    rw [Addr.add_lit, show o + j = o + j / 12 * 12 + j % 12 by omega]
    exact this
theorem steps_own {w : World} {base n c : Nat} {A : Option Addr} {ss : List Stp} (h : w.ownsRow base 67 12 (.slice A n c) n (cellsS ss)) : Df.Steps w w.heap.size A ss := fun i s hs => by
  have hi := at_lt hs
  have hl := h.1
  rw [cellsS_len] at hl
  rcases h.2 with ⟨h1, h0⟩ | ⟨g, cap, cur, h1, _, hg, _⟩
  · omega
  · injection h1 with h1 _ h2
    subst h1
    subst h2
    refine ⟨g, 0, rfl, (Array.getElem?_eq_some_iff.1 hg).1, fun j u hu => ?_⟩
    have hj : j < 12 := at_lt hu
    rw [Nat.zero_add, h.cellAt (i * 12 + j) (by omega), cellsS_get ss i j hj, hs]
    exact hu
theorem cellsS_snoc (ss : List Stp) (x : Stp) : cellsS (ss ++ [x]) = cellsS ss ++ x.cells := by simp [cellsS]
theorem own_form12 {w : World} {base : Nat} {e : TypeId} {v : Value} {n k : Nat} {xs : List Value} (h : w.ownsRow base e k v n xs) : ∃ A c, v = .slice A n c ∧ n ≤ c := by
  rcases h.2 with ⟨rfl, rfl⟩ | ⟨g, cap, cur, rfl, _, _, hc, _⟩
  · exact ⟨_, _, rfl, Nat.le_refl _⟩
  · exact ⟨_, _, rfl, hc⟩
theorem own_far {w : World} {base n k g : Nat} {e t : TypeId} {v : Value} {xs : List Value} {cs : Array Value} (h : w.ownsRow base e k v n xs) (hb : Box w g t cs) (hne : t ≠ e) : v.ownBlock ≠ some g := by
  rcases h.2 with ⟨rfl, _⟩ | ⟨g', cap, cur, rfl, _, hh, _⟩
  · simp [Value.ownBlock]
  · intro q
    have q' : g' = g := by simpa [Value.ownBlock] using q
    subst q'
    exact hb.apart (t' := e) hh hne rfl
section
variable {P : Program}
theorem wp_append_at (w : World) {o : Oper} {a : Act} {K : Act → World → Prop} {Q : Exit → Act → World → Prop} (s x : Operand) (t : TypeId)
    (ho : o.op = .call { callee := .builtin .append, args := #[s, x], argTypes := #[t, t] })
    (base : Nat) (e : TypeId) (i : TypeInfo) (z : Value) (size bytes : Nat) (ht : P.underlying t = some (.slice e)) (hi : P.info? e = some i) (hz : i.zero = some z)
    (hsize : i.size = size) (hby : i.bytes = bytes) (hzs : z.cells.size = size) (hsz : 0 < size)
    (v : Value) (n : Nat) (xs : List Value) (hs : a.eval s = v) (hown : w.ownsRow base e size v n xs)
    (ad : Addr) (m c : Nat) (news : List Value) (hx : a.eval x = .slice (some ad) m c) (hl : news.length = m * size) (hnews : ∀ j u, news[j]? = some u → w.cell? (ad.add j) = some u) (h1 : ∀ u ∈ news, u.oneCell' = true)
    (h63 : n + m ≤ maxLen) (hbytes : (n + m) * bytes ≤ 140737488355328) (hbase : base ≤ w.heap.size)
    (h : ∀ v' w', w'.ownsRow base e size v' (n + m) (xs ++ news) → w.grownBy w' v.ownBlock → (v'.ownBlock = v.ownBlock ∨ v'.ownBlock = some w.heap.size) → K (a.put o.dst v') w') : o.wp P a w K Q := by
  obtain ⟨v', w', hr, h2, h3, _, h5⟩ := run_append_own_at (P := P) w base t o.type e i z size bytes ht hi hz hsize hby hzs hsz v n xs hown ad m c news hl hnews h1 h63 hbytes hbase
  unfold Oper.wp execOp
  simp only [ho, resolve, invoke, builtin, Sem.run_bind, Sem.run_pure, Result.andThen_ok, List.map_toArray, List.map_cons, List.map_nil, hs, hx, hr]
  exact h v' w' h2 h3 h5
theorem step_append_at (w : World) {ops : Array Oper} {o : Oper} {a : Act} {K : Act → World → Prop} {Q : Exit → Act → World → Prop} {E : Prop} (hgd : o.guard = none) (s x : Operand) (t : TypeId)
    (ho : o.op = .call { callee := .builtin .append, args := #[s, x], argTypes := #[t, t] })
    (base : Nat) (e : TypeId) (i : TypeInfo) (z : Value) (size bytes : Nat) (ht : P.underlying t = some (.slice e)) (hi : P.info? e = some i) (hz : i.zero = some z)
    (hsize : i.size = size) (hby : i.bytes = bytes) (hzs : z.cells.size = size) (hsz : 0 < size)
    (v : Value) (n : Nat) (xs : List Value) (hs : a.eval s = v) (hown : w.ownsRow base e size v n xs)
    (ad : Addr) (m c : Nat) (news : List Value) (hx : a.eval x = .slice (some ad) m c) (hl : news.length = m * size) (hnews : ∀ j u, news[j]? = some u → w.cell? (ad.add j) = some u) (h1 : ∀ u ∈ news, u.oneCell' = true)
    (h63 : n + m ≤ maxLen) (hbytes : (n + m) * bytes ≤ 140737488355328) (hbase : base ≤ w.heap.size)
    (h : ∀ v' w', w'.ownsRow base e size v' (n + m) (xs ++ news) → w.grownBy w' v.ownBlock → (v'.ownBlock = v.ownBlock ∨ v'.ownBlock = some w.heap.size) → K (a.put o.dst v') w') :
    if Region.wanted o (yielded ops a.tmps) = true then Oper.wp P o a w K Q else E := by
  have hw : Region.wanted o (yielded ops a.tmps) = true := by simp [Region.wanted, hgd]
  rw [if_pos hw]
  exact wp_append_at w s x t ho base e i z size bytes ht hi hz hsize hby hzs hsz v n xs hs hown ad m c news hx hl hnews h1 h63 hbytes hbase h
end
theorem cell_al {w : World} {p : Addr} {v : Value} (h : w.cell? p = some v) (o : Obj) : (w.alloc o).cell? p = some v := (((Below.refl w.heap.size w).alloc (Nat.le_refl _) o).cell (World.block_lt_of_cell? _ _ h)).trans h
theorem cell_putfar {w : World} {p : Addr} {v : Value} (h : w.cell? p = some v) {q : Nat} (hq : p.block ≠ q) (i : Nat) (x : Value) : (w.setCell ⟨q, i, none⟩ x).cell? p = some v := (World.cell?_of_block (Below.heap_setCell w ⟨q, i, none⟩ x p.block hq)).trans h
theorem new_cells (w : World) (x : Stp) : ∀ j u, x.cells[j]? = some u → (w.alloc (.cells #[.string x.nm, .string x.pt, .int .i64 x.tm, .int .i64 x.t.r, .int .i64 x.t.b, .int .i64 x.t.f, .int .i64 x.t.c, .int .i64 x.u.r, .int .i64 x.u.b, .int .i64 x.u.f, .int .i64 x.u.c, .int .i64 x.pr] 67)).cell? ((⟨w.heap.size, 0, none⟩ : Addr).add j) = some u := by
  intro j u hj
  rw [Addr.add_lit, Nat.zero_add, (Box.new w 67 _).cell j]
  simpa [Stp.cells] using hj
section
variable {W W0 u v w1 w2 : World} {g gd : Nat} {l : List UInt8} {s t : Ps} {cs : Array Value} {ty : TypeId}
theorem RdAt.grown (h : RdAt W u g l s) {row : Option Nat} (hg : u.grownBy v row) (hr : ∀ q, row = some q → W.heap.size ≤ q) : RdAt W v g l s := by
  have hlt := h.lt
  have hs := h.size
  have hb : ∀ i, i < W.heap.size → v.heap[i]? = u.heap[i]? := fun i hi => hg.block i (by omega) (fun e => by have := hr i e.symm; omega)
  exact ⟨Rd.other h.rd (fun i hi => hb i (by omega)), ⟨hg.os.trans h.gr.os, hg.tape.trans h.gr.tape, hg.output.trans h.gr.output, Nat.le_trans hs hg.size, fun i hi hx => (hb i hi).trans (h.gr.block i hi hx)⟩, hlt⟩
theorem RdAt.on (h : RdAt W u g l s) : RdAt u u g l s := RdAt.refl h.rd (Nat.lt_of_lt_of_le h.lt h.size)
theorem rd_apart (h : RdAt W u g l s) {base n k : Nat} {x : Value} {xs : List Value} (ho : u.ownsRow base 67 k x n xs) : x.ownBlock ≠ some g := by
  obtain ⟨A, c, _, hb, _⟩ := h.rd.box
  exact own_far ho hb (by decide)
/-- where the loop stands -/
structure Lp (W0 wr : World) (g gd : Nat) (l : List UInt8) (s : Ps) (nm : ByteArray) (dl : Int) (A : Option Addr) (k c : Nat) (xs : List Stp) : Prop where
  rd : RdAt W0 wr g l s
  box : Box wr gd 24 #[.string nm, .int .i64 dl, .slice A k c]
  own : wr.ownsRow W0.heap.size 67 12 (.slice A k c) k (cellsS xs)
/-- behind an append -/
structure Ap (W0 w2 : World) (g gd : Nat) (l : List UInt8) (s : Ps) (nm : ByteArray) (dl : Int) (A : Option Addr) (k c : Nat) (A2 : Option Addr) (c2 : Nat) (xs : List Stp) : Prop where
  rd : RdAt W0 w2 g l s
  box : Box w2 gd 24 #[.string nm, .int .i64 dl, .slice A k c]
  own : w2.ownsRow W0.heap.size 67 12 (.slice A2 (k + 1) c2) (k + 1) (cellsS xs)
section
variable {nm : ByteArray} {dl : Int} {A A2 : Option Addr} {k c c2 : Nat} {xs ys : List Stp} {wr : World}
theorem app_step (h : Lp W0 wr g gd l s nm dl A k c xs) (h1 : RdAt wr w1 g l t) (hgd : W0.heap.size ≤ gd) {o : Obj} (hg2 : (w1.alloc o).grownBy w2 (Value.slice A k c).ownBlock) (ho2 : w2.ownsRow W0.heap.size 67 12 (.slice A2 (k + 1) c2) (k + 1) (cellsS ys)) :
    Ap W0 w2 g gd l t nm dl A k c A2 c2 ys := by
  have hlt := h.rd.lt
  have hb1 := (h1.box h.box (by omega)).alloc o
  have ho1 := (h.own.kept h1.gr (.inr (rd_apart h.rd h.own))).alloc o
  exact ⟨((h.rd.trans h1).alloc o).grown hg2 (fun q hq => (ho1.lt q hq).1), hb1.grown hg2 (fun e => own_far ho1 hb1 (by decide) e.symm), ho2⟩
theorem done_step (h : Ap W0 w2 g gd l t nm dl A k c A2 c2 ys) (hgd : W0.heap.size ≤ gd) : Lp W0 (w2.setCell ⟨gd, 2, none⟩ (.slice A2 (k + 1) c2)) g gd l t nm dl A2 (k + 1) c2 ys :=
  ⟨h.rd.put hgd 2 _, h.box.put 2 _, h.own.kept (only_put (World.grownBy.refl w2 _) 2 _) (.inr (own_far h.own h.box (by decide)))⟩
end
end
theorem setRow_grown (w : World) (q : Nat) (cs : Array Value) : w.grownBy (w.setRow q cs) (some q) := ⟨rfl, rfl, rfl, by rw [setRow_size]; exact Nat.le_refl _, fun i _ hx => setRow_other w q i cs (fun e => hx (by rw [e]))⟩
theorem own_lower {w : World} {base base' n k : Nat} {e : TypeId} {v : Value} {xs : List Value} (h : w.ownsRow base e k v n xs) (hb : base' ≤ base) : w.ownsRow base' e k v n xs := by
  refine ⟨h.1, h.2.imp id ?_⟩
  rintro ⟨g, cap, cur, hv, hg, r⟩
  exact ⟨g, cap, cur, hv, Nat.le_trans hb hg, r⟩
/-- what the reader of a definition answers and leaves -/
def DefTo (W u : World) (g : Nat) (l : List UInt8) (s : Ps) (e : Ending) (w' : World) : Prop :=
  ∃ A c, e = .returned (.agg #[.string (txtQ l s), .int .i64 (numQ l (txtS l s) : Nat), .slice A (defN l s) c]) ∧ RdAt W w' g l (defS l s) ∧ w'.ownsRow u.heap.size 67 12 (.slice A (defN l s) c) (defN l s) (cellsS (defSs l s))
section
variable {W u : World} {g : Nat} {l : List UInt8} {s : Ps}
set_option maxHeartbeats 8000000 in
set_option maxRecDepth 100000 in
theorem def_s (h : RdAt W u g l s) : Calls Try.prog 32 #[.agg #[.pointer (some ⟨g, 0, none⟩)]] u (DefTo W u g l s) := by
  obtain ⟨i0, hi0, hz0, hz1, hz2⟩ := info_is
  have HR0 := Lib.hid ((RdAt.refl ((h.alloc (.cells #[.pointer (some ⟨g, 0, none⟩)] 80)).alloc (.cells #[.string ⟨#[]⟩, .int .i64 0, .slice none 0 0] 24)).rd (by have := h.lt; have := h.size; simp; omega)).drew)
  have HX := Lib.hid ((Box.new u 80 #[.pointer (some ⟨g, 0, none⟩)]).alloc (.cells #[.string ⟨#[]⟩, .int .i64 0, .slice none 0 0] 24))
  have HQ := Lib.hid (box_new2 u (.cells #[.pointer (some ⟨g, 0, none⟩)] 80) 24 #[.string ⟨#[]⟩, .int .i64 0, .slice none 0 0])
  have HU := Lib.hid ((h.alloc (.cells #[.pointer (some ⟨g, 0, none⟩)] 80)).alloc (.cells #[.string ⟨#[]⟩, .int .i64 0, .slice none 0 0] 24))
  have hs0 : ((u.alloc (.cells #[.pointer (some ⟨g, 0, none⟩)] 80)).alloc (.cells #[.string ⟨#[]⟩, .int .i64 0, .slice none 0 0] 24)).heap.size = u.heap.size + 2 := by simp
  have hq : u.heap.size ≠ g := by have := h.lt; have := h.size; omega
  have hq2 : u.heap.size + 1 ≠ g := by have := h.lt; have := h.size; omega
  have hW := h.size
  have HE : Hid (∀ A c w', RdAt W w' g l (defS l s) → w'.ownsRow u.heap.size 67 12 (.slice A (defN l s) c) (defN l s) (cellsS (defSs l s)) → DefTo W u g l s (.returned (.agg #[.string (txtQ l s), .int .i64 (numQ l (txtS l s) : Nat), .slice A (defN l s) c])) w') := Lib.hid fun A c w' h1 h2 => ⟨A, c, rfl, h1, h2⟩
  clear h
  go_enter Try.func32, Try.ntmps32
  go_upto_region 1 with fail
  generalize (u.alloc (.cells #[.pointer (some ⟨g, 0, none⟩)] 80)).alloc (.cells #[.string ⟨#[]⟩, .int .i64 0, .slice none 0 0] 24) = W0 at *
  have hgl : g < W0.heap.size := HR0.out.lt
  go_cut [3] from 4 to 9 (fun v3 wc => ∃ gd : Nat, v3 = .pointer (some ⟨gd, 0, none⟩) ∧ Hid (RdAt W0 wc g l (numS l (txtS l s)) ∧ Box wc gd 24 #[.string (txtQ l s), .int .i64 (numQ l (txtS l s) : Nat), .slice none 0 0] ∧ W0.heap.size ≤ gd))
  case first => as_aux_lemma =>
    refine wp_region_held_drew (S := fun v => v.cell? ⟨u.heap.size, 0, none⟩ = some (.pointer (some ⟨g, 0, none⟩))) (by kernel_rfl) (HR0.out.cell (j := 0) HX.out hq) (fun hHeld => ?_)
    refine wpAnyH_take (i := 0) (oi := ⟨some 4, _, _, _, _, _⟩) (v := ?_) rfl (by kernel_rfl) (by kernel_rfl) (by kernel_rfl) (fun _ _ _ h => h) (Or.inl ⟨by rfl, ?_⟩) (by assumption) ?_
    rotate_left
    · (intro u hu; (try dsimp only at hu); go_simp; (try with_reducible rfl))
    (try simp only [Act.put, List.setIfInBounds_toArray, List.set_cons_zero, List.set_cons_succ])
    refine wpAnyH_take (i := 2) (oi := ⟨some 6, _, _, _, _, _⟩) (v := ?_) rfl (by kernel_rfl) (by kernel_rfl) (by kernel_rfl) (fun _ _ _ h => h) (Or.inl ⟨by rfl, ?_⟩) (by assumption) ?_
    rotate_left
    · (intro u hu; (try dsimp only at hu); go_simp; (try with_reducible rfl))
    (try simp only [Act.put, List.setIfInBounds_toArray, List.set_cons_zero, List.set_cons_succ])
    refine wpAnyH_take (i := 3) (oi := ⟨some 7, _, _, _, _, _⟩) (v := ?_) rfl (by kernel_rfl) (by kernel_rfl) (by kernel_rfl) (fun _ _ _ h => h) (Or.inl ⟨by rfl, ?_⟩) (by assumption) ?_
    rotate_left
    · (intro u hu; (try dsimp only at hu); go_simp; (try with_reducible rfl))
    (try simp only [Act.put, List.setIfInBounds_toArray, List.set_cons_zero, List.set_cons_succ])
    refine wpAnyH_ready (rs := [1, 6]) (by decide +kernel) (by simp) ?_
    refine AllReadyH.cons (o := ⟨some 5, _, _, _, _, _⟩) rfl (fun K hK => ?_) (AllReadyH.cons (o := ⟨some 3, _, _, _, _, _⟩) rfl (fun K hK => ?_) AllReadyH.nil)
    · go_simp
      refine (text_s HR0.out.on).mono ?_
      rintro e w1 ⟨rfl, hR⟩
      have HR1 := Lib.hid (HR0.out.trans hR)
      clear hR
      go_wp2_with fail
      refine hK.out _ _ ?_ (fun hHeld => ?_)
      · exact HR1.out.cell (j := 0) HX.out hq
      clear hK K
      (try simp only [Act.put, List.setIfInBounds_toArray, List.set_cons_zero, List.set_cons_succ])
      refine wpAnyH_ready (rs := [4, 6]) (by decide +kernel) (by simp) ?_
      refine AllReadyH.cons (o := ⟨some 8, _, _, _, _, _⟩) rfl (fun K hK => ?_) (AllReadyH.cons (o := ⟨some 3, _, _, _, _, _⟩) rfl (fun K hK => ?_) AllReadyH.nil)
      · go_simp
        refine (num_s HR1.out.on).mono ?_
        rintro e w2 ⟨rfl, hR⟩
        have HR2 := Lib.hid (HR1.out.trans hR)
        clear hR
        go_wp2_with fail
        refine hK.out _ _ ?_ (fun hHeld => ?_)
        · exact HR2.out.cell (j := 0) HX.out hq
        clear hK K
        (try simp only [Act.put, List.setIfInBounds_toArray, List.set_cons_zero, List.set_cons_succ])
        refine wpAnyH_take (i := 5) (oi := ⟨some 9, _, _, _, _, _⟩) (v := ?_) rfl (by kernel_rfl) (by kernel_rfl) (by kernel_rfl) (fun _ _ _ h => h) (Or.inl ⟨by rfl, ?_⟩) (by assumption) ?_
        rotate_left
        · (intro u hu; (try dsimp only at hu); go_simp; (try with_reducible rfl))
        (try simp only [Act.put, List.setIfInBounds_toArray, List.set_cons_zero, List.set_cons_succ])
        refine wpAnyH_ready (rs := [6]) (by decide +kernel) (by simp) ?_
        refine AllReadyH.cons (o := ⟨some 3, _, _, _, _, _⟩) rfl (fun K hK => ?_) AllReadyH.nil
        go_simp
        refine hK.out _ _ ?_ (fun hHeld => ?_)
        · exact cell_al (HR2.out.cell (j := 0) HX.out hq) _
        clear hK K
        (try simp only [Act.put, List.setIfInBounds_toArray, List.set_cons_zero, List.set_cons_succ])
        have HA3 := Lib.hid (HR2.out.alloc (.cells #[.string ⟨#[]⟩, .int .i64 0, .slice none 0 0] 24))
        have hB3 : Hid (Box (w2.alloc (.cells #[.string ⟨#[]⟩, .int .i64 0, .slice none 0 0] 24)) (w2.heap.size) 24 #[.string ⟨#[]⟩, .int .i64 0, .slice none 0 0]) := Lib.hid (Box.new w2 24 #[.string ⟨#[]⟩, .int .i64 0, .slice none 0 0])
        have hZ3 := HR2.out.size
        refine wpAnyH_ready (rs := [7]) (by decide +kernel) (by simp) ?_
        refine AllReadyH.cons (o := ⟨none, _, _, _, _, _⟩) rfl (fun K hK => ?_) AllReadyH.nil
        rw [if_pos (by rfl)]
        refine oper_store 24 _ _ rfl (w2.heap.size) 24 _ #[.string (txtQ l s), .int .i64 (numQ l (txtS l s) : Nat), .slice none 0 0] rfl rfl hB3.out (by show (Try.prog.info? 24).map (·.size) = some 3; kernel_rfl) rfl (by simp [Value.oneCell']) ?_
        refine hK.out _ _ ?_ (fun hHeld => ?_)
        · exact cell_far (HA3.out.cell (j := 0) HX.out hq) (show u.heap.size ≠ w2.heap.size by omega) _
        clear hK K
        (try simp only [Act.put])
        refine wpAnyH_done (by kernel_rfl) ?_ _
        go_wp2_with fail
        go_meet
        exact ⟨_, rfl, Lib.hid ⟨HA3.out.row (by omega) _, box_set hB3.out _, by omega⟩⟩
      · go_simp
        refine hK.out _ _ ?_ (fun hHeld => ?_)
        · exact cell_al (HR1.out.cell (j := 0) HX.out hq) _
        clear hK K
        (try simp only [Act.put, List.setIfInBounds_toArray, List.set_cons_zero, List.set_cons_succ])
        have HA2 := Lib.hid (HR1.out.alloc (.cells #[.string ⟨#[]⟩, .int .i64 0, .slice none 0 0] 24))
        have hB2 : Hid (Box (w1.alloc (.cells #[.string ⟨#[]⟩, .int .i64 0, .slice none 0 0] 24)) (w1.heap.size) 24 #[.string ⟨#[]⟩, .int .i64 0, .slice none 0 0]) := Lib.hid (Box.new w1 24 #[.string ⟨#[]⟩, .int .i64 0, .slice none 0 0])
        have hZ2 := HR1.out.size
        refine wpAnyH_ready (rs := [4]) (by decide +kernel) (by simp) ?_
        refine AllReadyH.cons (o := ⟨some 8, _, _, _, _, _⟩) rfl (fun K hK => ?_) AllReadyH.nil
        go_simp
        refine (num_s HA2.out.on).mono ?_
        rintro e w3 ⟨rfl, hR⟩
        have HR3 := Lib.hid (HA2.out.trans hR)
        have hB3 := Lib.hid (hR.box hB2.out (by omega))
        clear hR
        go_wp2_with fail
        refine hK.out _ _ ?_ (fun hHeld => ?_)
        · exact HR3.out.cell (j := 0) HX.out hq
        clear hK K
        (try simp only [Act.put, List.setIfInBounds_toArray, List.set_cons_zero, List.set_cons_succ])
        refine wpAnyH_take (i := 5) (oi := ⟨some 9, _, _, _, _, _⟩) (v := ?_) rfl (by kernel_rfl) (by kernel_rfl) (by kernel_rfl) (fun _ _ _ h => h) (Or.inl ⟨by rfl, ?_⟩) (by assumption) ?_
        rotate_left
        · (intro u hu; (try dsimp only at hu); go_simp; (try with_reducible rfl))
        (try simp only [Act.put, List.setIfInBounds_toArray, List.set_cons_zero, List.set_cons_succ])
        refine wpAnyH_ready (rs := [7]) (by decide +kernel) (by simp) ?_
        refine AllReadyH.cons (o := ⟨none, _, _, _, _, _⟩) rfl (fun K hK => ?_) AllReadyH.nil
        rw [if_pos (by rfl)]
        refine oper_store 24 _ _ rfl (w1.heap.size) 24 _ #[.string (txtQ l s), .int .i64 (numQ l (txtS l s) : Nat), .slice none 0 0] rfl rfl hB3.out (by show (Try.prog.info? 24).map (·.size) = some 3; kernel_rfl) rfl (by simp [Value.oneCell']) ?_
        refine hK.out _ _ ?_ (fun hHeld => ?_)
        · exact cell_far (HR3.out.cell (j := 0) HX.out hq) (show u.heap.size ≠ w1.heap.size by omega) _
        clear hK K
        (try simp only [Act.put])
        refine wpAnyH_done (by kernel_rfl) ?_ _
        go_wp2_with fail
        go_meet
        exact ⟨_, rfl, Lib.hid ⟨HR3.out.row (by omega) _, box_set hB3.out _, by omega⟩⟩
    · go_simp
      refine hK.out _ _ ?_ (fun hHeld => ?_)
      · exact cell_al (HR0.out.cell (j := 0) HX.out hq) _
      clear hK K
      (try simp only [Act.put, List.setIfInBounds_toArray, List.set_cons_zero, List.set_cons_succ])
      have HA1 := Lib.hid (HR0.out.alloc (.cells #[.string ⟨#[]⟩, .int .i64 0, .slice none 0 0] 24))
      have hB1 : Hid (Box (W0.drew.alloc (.cells #[.string ⟨#[]⟩, .int .i64 0, .slice none 0 0] 24)) (u.heap.size + 2) 24 #[.string ⟨#[]⟩, .int .i64 0, .slice none 0 0]) := Lib.hid (by have h1 := Box.new W0.drew 24 #[.string ⟨#[]⟩, .int .i64 0, .slice none 0 0]; rw [show W0.drew.heap.size = u.heap.size + 2 from hs0] at h1; exact h1)
      have hZ1 := (show W0.heap.size ≤ u.heap.size + 2 by omega)
      refine wpAnyH_ready (rs := [1]) (by decide +kernel) (by simp) ?_
      refine AllReadyH.cons (o := ⟨some 5, _, _, _, _, _⟩) rfl (fun K hK => ?_) AllReadyH.nil
      go_simp
      refine (text_s HA1.out.on).mono ?_
      rintro e w2 ⟨rfl, hR⟩
      have HR2 := Lib.hid (HA1.out.trans hR)
      have hB2 := Lib.hid (hR.box hB1.out (by omega))
      clear hR
      go_wp2_with fail
      refine hK.out _ _ ?_ (fun hHeld => ?_)
      · exact HR2.out.cell (j := 0) HX.out hq
      clear hK K
      (try simp only [Act.put, List.setIfInBounds_toArray, List.set_cons_zero, List.set_cons_succ])
      refine wpAnyH_ready (rs := [4]) (by decide +kernel) (by simp) ?_
      refine AllReadyH.cons (o := ⟨some 8, _, _, _, _, _⟩) rfl (fun K hK => ?_) AllReadyH.nil
      go_simp
      refine (num_s HR2.out.on).mono ?_
      rintro e w3 ⟨rfl, hR⟩
      have HR3 := Lib.hid (HR2.out.trans hR)
      have hB3 := Lib.hid (hR.box hB2.out (by omega))
      clear hR
      go_wp2_with fail
      refine hK.out _ _ ?_ (fun hHeld => ?_)
      · exact HR3.out.cell (j := 0) HX.out hq
      clear hK K
      (try simp only [Act.put, List.setIfInBounds_toArray, List.set_cons_zero, List.set_cons_succ])
      refine wpAnyH_take (i := 5) (oi := ⟨some 9, _, _, _, _, _⟩) (v := ?_) rfl (by kernel_rfl) (by kernel_rfl) (by kernel_rfl) (fun _ _ _ h => h) (Or.inl ⟨by rfl, ?_⟩) (by assumption) ?_
      rotate_left
      · (intro u hu; (try dsimp only at hu); go_simp; (try with_reducible rfl))
      (try simp only [Act.put, List.setIfInBounds_toArray, List.set_cons_zero, List.set_cons_succ])
      refine wpAnyH_ready (rs := [7]) (by decide +kernel) (by simp) ?_
      refine AllReadyH.cons (o := ⟨none, _, _, _, _, _⟩) rfl (fun K hK => ?_) AllReadyH.nil
      rw [if_pos (by rfl)]
      refine oper_store 24 _ _ rfl (u.heap.size + 2) 24 _ #[.string (txtQ l s), .int .i64 (numQ l (txtS l s) : Nat), .slice none 0 0] rfl rfl hB3.out (by show (Try.prog.info? 24).map (·.size) = some 3; kernel_rfl) rfl (by simp [Value.oneCell']) ?_
      refine hK.out _ _ ?_ (fun hHeld => ?_)
      · exact cell_far (HR3.out.cell (j := 0) HX.out hq) (show u.heap.size ≠ u.heap.size + 2 by omega) _
      clear hK K
      (try simp only [Act.put])
      refine wpAnyH_done (by kernel_rfl) ?_ _
      go_wp2_with fail
      go_meet
      exact ⟨_, rfl, Lib.hid ⟨HR3.out.row (by omega) _, box_set hB3.out _, by omega⟩⟩
  case rest =>
    obtain ⟨gd, rfl, HC⟩ := hcut
    have hgd := HC.out.2.2
    obtain ⟨nm, hnm⟩ : ∃ nm, nm = txtQ l s := ⟨_, rfl⟩
    obtain ⟨dl, hdl⟩ : ∃ dl : Int, dl = (numQ l (txtS l s) : Nat) := ⟨_, rfl⟩
    obtain ⟨s3, hs3⟩ : ∃ s3, s3 = defC l s := ⟨_, rfl⟩
    obtain ⟨N, hN⟩ : ∃ N, N = defN l s := ⟨_, rfl⟩
    have hN32 : N ≤ 32 := by rw [hN]; exact cntQ_le _
    have HDS : Hid (defS l s = stepsS l N s3) := Lib.hid (by rw [hs3, hN]; rfl)
    have HDQ : Hid (defSs l s = stepsQ l N s3) := Lib.hid (by rw [hs3, hN]; rfl)
    have HCn : Hid (∀ w1, RdAt wc w1 g l (cntS l (numS l (txtS l s))) → RdAt wc w1 g l s3) := Lib.hid fun w1 h1 => by rw [hs3]; exact h1
    have HCq : Hid (cntQ l (numS l (txtS l s)) = N) := Lib.hid (by rw [hN]; rfl)
    rw [← hN, ← hnm, ← hdl] at HE
    rw [← hnm, ← hdl] at HC
    clear hnm hdl hs3 hN
    have c0 : wc.cell? ⟨u.heap.size, 0, none⟩ = some (.pointer (some ⟨g, 0, none⟩)) := HC.out.1.cell (j := 0) HX.out hq
    go_wp2_with fail
    refine (cnt_s HC.out.1.on).mono ?_
    rintro e w3 ⟨rfl, hR⟩
    rw [HCq.out]
    have HL0 : Hid (Lp W0 w3 g gd l (stepsS l 0 s3) nm dl none 0 0 (stepsQ l 0 s3)) := Lib.hid ⟨HC.out.1.trans (HCn.out _ hR), hR.box HC.out.2.1 (by omega), World.ownsRow_nil _ _ _ _⟩
    clear hR HCn HCq c0
    go_wp2_with fail
    go_loopw [13] (fun vi wr => ∃ k : Nat, vi = .int .i64 (k : Int) ∧ k ≤ N ∧ ∃ (A : Option Addr) (c' : Nat), Hid (Lp W0 wr g gd l (stepsS l k s3) nm dl A k c' (stepsQ l k s3))) (fun vi _ => N - (intOf vi).toNat)
    case atStart => exact ⟨0, rfl, Nat.zero_le _, none, 0, HL0⟩
    case round =>
      obtain ⟨k, rfl, hk, A, c', HL⟩ := hrel
      clear HL0 HC
      by_cases hkn : k < N
      · have HRd := Lib.hid (HL.out.rd.on.drew)
        have d2 : wr.drew.cell? ⟨gd, 2, none⟩ = some (.slice A k c') := HL.out.box.cell 2
        go_wp2_with fail
        refine wp_region_held_drew (S := fun v => v.cell? ⟨u.heap.size, 0, none⟩ = some (.pointer (some ⟨g, 0, none⟩))) (by kernel_rfl) (HL.out.rd.cell (j := 0) HX.out hq) (fun hHeld => ?_)
        refine wpAnyH_take (i := 0) (oi := ⟨some 15, _, _, _, _, _⟩) (v := ?_) rfl (by kernel_rfl) (by kernel_rfl) (by kernel_rfl) (fun _ _ _ h => h) (Or.inl ⟨by rfl, ?_⟩) (by assumption) ?_
        rotate_left
        · (intro u hu; (try dsimp only at hu); go_simp; (try with_reducible rfl))
        (try simp only [Act.put, List.setIfInBounds_toArray, List.set_cons_zero, List.set_cons_succ])
        refine wpAnyH_take (i := 2) (oi := ⟨some 17, _, _, _, _, _⟩) (v := ?_) rfl (by kernel_rfl) (by kernel_rfl) (by kernel_rfl) (fun _ _ _ h => h) (Or.inl ⟨by rfl, ?_⟩) (by assumption) ?_
        rotate_left
        · (intro u hu; (try dsimp only at hu); go_simp; (try with_reducible rfl))
        (try simp only [Act.put, List.setIfInBounds_toArray, List.set_cons_zero, List.set_cons_succ])
        refine wpAnyH_ready (rs := [1, 3]) (by decide +kernel) (by simp) ?_
        refine AllReadyH.cons (o := ⟨some 16, _, _, _, _, _⟩) rfl (fun K hK => ?_) (AllReadyH.cons (o := ⟨some 18, _, _, _, _, _⟩) rfl (fun K hK => ?_) AllReadyH.nil)
        · go_simp
          refine hK.out _ _ ?_ (fun hHeld => ?_)
          · exact HL.out.rd.cell (j := 0) HX.out hq
          clear hK K
          (try simp only [Act.put, List.setIfInBounds_toArray, List.set_cons_zero, List.set_cons_succ])
          refine wpAnyH_ready (rs := [3]) (by decide +kernel) (by simp) ?_
          refine AllReadyH.cons (o := ⟨some 18, _, _, _, _, _⟩) rfl (fun K hK => ?_) AllReadyH.nil
          go_simp
          refine (step_s HRd.out).mono ?_
          rintro e w1 ⟨rfl, hR⟩
          have HR1 := Lib.hid hR
          clear hR
          go_wp2_with fail
          refine hK.out _ _ ?_ (fun hHeld => ?_)
          · exact (HL.out.rd.trans HR1.out).cell (j := 0) HX.out hq
          clear hK K
          (try simp only [Act.put, List.setIfInBounds_toArray, List.set_cons_zero, List.set_cons_succ])
          have ho1 := HL.out.own.kept HR1.out.gr (.inr (rd_apart HL.out.rd HL.out.own))
          have hb1 := Lib.hid (HR1.out.box HL.out.box (by omega))
          have d2 : w1.cell? ⟨gd, 2, none⟩ = some (.slice A k c') := hb1.out.cell 2
          refine wpAnyH_ready (rs := [4]) (by decide +kernel) (by simp) ?_
          refine AllReadyH.cons (o := ⟨some 19, _, _, _, _, _⟩) rfl (fun K hK => ?_) AllReadyH.nil
          go_simp
          refine hK.out _ _ ?_ (fun hHeld => ?_)
          · exact cell_al ((HL.out.rd.trans HR1.out).cell (j := 0) HX.out hq) _
          clear hK K
          (try simp only [Act.put, List.setIfInBounds_toArray, List.set_cons_zero, List.set_cons_succ])
          refine wpAnyH_ready (rs := [5]) (by decide +kernel) (by simp) ?_
          refine AllReadyH.cons (o := ⟨some 20, _, _, _, _, _⟩) rfl (fun K hK => ?_) AllReadyH.nil
          refine step_append_at _ rfl (.tmp 16) (.tmp 19) 22 rfl W0.heap.size 67 i0 zstep 12 112 Try.underlying22 hi0 hz0 hz1 hz2 rfl (by decide) _ k _ rfl (ho1.alloc _) ⟨w1.heap.size, 0, none⟩ 1 1 (stepQ l (stepsS l k s3)).cells rfl (by rfl) (new_cells _ _) (cells_one _) (by unfold maxLen; omega) (by omega) (by have := HR1.out.size; have := HL.out.rd.size; simp; omega) ?_
          intro v2 w2 hown2 hg2 hat2
          rw [← cellsS_snoc, ← stepsQ_snoc] at hown2
          obtain ⟨A2, c2, rfl, hc2⟩ := own_form12 hown2
          have HY := Lib.hid (app_step HL.out HR1.out hgd hg2 hown2)
          clear hown2 hg2 hat2
          refine hK.out _ _ ?_ (fun hHeld => ?_)
          · exact HY.out.rd.cell (j := 0) HX.out hq
          clear hK K
          (try simp only [Act.put, List.setIfInBounds_toArray, List.set_cons_zero, List.set_cons_succ])
          have d2 : w2.cell? ⟨gd, 2, none⟩ = some (.slice A k c') := HY.out.box.cell 2
          have e2 := HY.out.box.frozen 2
          refine wpAnyH_take (i := 6) (oi := ⟨some 21, _, _, _, _, _⟩) (v := ?_) rfl (by kernel_rfl) (by kernel_rfl) (by kernel_rfl) (fun _ _ _ h => h) (Or.inl ⟨by rfl, ?_⟩) (by assumption) ?_
          rotate_left
          · (intro u hu; (try dsimp only at hu); go_simp; (try with_reducible rfl))
          (try simp only [Act.put, List.setIfInBounds_toArray, List.set_cons_zero, List.set_cons_succ])
          refine wpAnyH_ready (rs := [7]) (by decide +kernel) (by simp) ?_
          refine AllReadyH.cons (o := ⟨none, _, _, _, _, _⟩) rfl (fun K hK => ?_) AllReadyH.nil
          go_simp
          refine hK.out _ _ ?_ (fun hHeld => ?_)
          · exact cell_putfar (HY.out.rd.cell (j := 0) HX.out hq) (show u.heap.size ≠ gd by omega) _ _
          clear hK K
          (try simp only [Act.put])
          refine wpAnyH_done (by kernel_rfl) ?_ _
          go_wp2_with fail
          go_roundw
          case rel => exact ⟨k + 1, by go_num, by omega, A2, c2, Lib.hid (by rw [stepsS_snoc]; exact done_step HY.out hgd)⟩
          case measure => simp only [intOf]; omega
        · go_simp
          refine (step_s HRd.out).mono ?_
          rintro e w1 ⟨rfl, hR⟩
          have HR1 := Lib.hid hR
          clear hR
          go_wp2_with fail
          refine hK.out _ _ ?_ (fun hHeld => ?_)
          · exact (HL.out.rd.trans HR1.out).cell (j := 0) HX.out hq
          clear hK K
          (try simp only [Act.put, List.setIfInBounds_toArray, List.set_cons_zero, List.set_cons_succ])
          have ho1 := HL.out.own.kept HR1.out.gr (.inr (rd_apart HL.out.rd HL.out.own))
          have hb1 := Lib.hid (HR1.out.box HL.out.box (by omega))
          have d2 : w1.cell? ⟨gd, 2, none⟩ = some (.slice A k c') := hb1.out.cell 2
          refine wpAnyH_ready (rs := [1, 4]) (by decide +kernel) (by simp) ?_
          refine AllReadyH.cons (o := ⟨some 16, _, _, _, _, _⟩) rfl (fun K hK => ?_) (AllReadyH.cons (o := ⟨some 19, _, _, _, _, _⟩) rfl (fun K hK => ?_) AllReadyH.nil)
          · go_simp
            refine hK.out _ _ ?_ (fun hHeld => ?_)
            · exact (HL.out.rd.trans HR1.out).cell (j := 0) HX.out hq
            clear hK K
            (try simp only [Act.put, List.setIfInBounds_toArray, List.set_cons_zero, List.set_cons_succ])
            refine wpAnyH_ready (rs := [4]) (by decide +kernel) (by simp) ?_
            refine AllReadyH.cons (o := ⟨some 19, _, _, _, _, _⟩) rfl (fun K hK => ?_) AllReadyH.nil
            go_simp
            refine hK.out _ _ ?_ (fun hHeld => ?_)
            · exact cell_al ((HL.out.rd.trans HR1.out).cell (j := 0) HX.out hq) _
            clear hK K
            (try simp only [Act.put, List.setIfInBounds_toArray, List.set_cons_zero, List.set_cons_succ])
            refine wpAnyH_ready (rs := [5]) (by decide +kernel) (by simp) ?_
            refine AllReadyH.cons (o := ⟨some 20, _, _, _, _, _⟩) rfl (fun K hK => ?_) AllReadyH.nil
            refine step_append_at _ rfl (.tmp 16) (.tmp 19) 22 rfl W0.heap.size 67 i0 zstep 12 112 Try.underlying22 hi0 hz0 hz1 hz2 rfl (by decide) _ k _ rfl (ho1.alloc _) ⟨w1.heap.size, 0, none⟩ 1 1 (stepQ l (stepsS l k s3)).cells rfl (by rfl) (new_cells _ _) (cells_one _) (by unfold maxLen; omega) (by omega) (by have := HR1.out.size; have := HL.out.rd.size; simp; omega) ?_
            intro v2 w2 hown2 hg2 hat2
            rw [← cellsS_snoc, ← stepsQ_snoc] at hown2
            obtain ⟨A2, c2, rfl, hc2⟩ := own_form12 hown2
            have HY := Lib.hid (app_step HL.out HR1.out hgd hg2 hown2)
            clear hown2 hg2 hat2
            refine hK.out _ _ ?_ (fun hHeld => ?_)
            · exact HY.out.rd.cell (j := 0) HX.out hq
            clear hK K
            (try simp only [Act.put, List.setIfInBounds_toArray, List.set_cons_zero, List.set_cons_succ])
            have d2 : w2.cell? ⟨gd, 2, none⟩ = some (.slice A k c') := HY.out.box.cell 2
            have e2 := HY.out.box.frozen 2
            refine wpAnyH_take (i := 6) (oi := ⟨some 21, _, _, _, _, _⟩) (v := ?_) rfl (by kernel_rfl) (by kernel_rfl) (by kernel_rfl) (fun _ _ _ h => h) (Or.inl ⟨by rfl, ?_⟩) (by assumption) ?_
            rotate_left
            · (intro u hu; (try dsimp only at hu); go_simp; (try with_reducible rfl))
            (try simp only [Act.put, List.setIfInBounds_toArray, List.set_cons_zero, List.set_cons_succ])
            refine wpAnyH_ready (rs := [7]) (by decide +kernel) (by simp) ?_
            refine AllReadyH.cons (o := ⟨none, _, _, _, _, _⟩) rfl (fun K hK => ?_) AllReadyH.nil
            go_simp
            refine hK.out _ _ ?_ (fun hHeld => ?_)
            · exact cell_putfar (HY.out.rd.cell (j := 0) HX.out hq) (show u.heap.size ≠ gd by omega) _ _
            clear hK K
            (try simp only [Act.put])
            refine wpAnyH_done (by kernel_rfl) ?_ _
            go_wp2_with fail
            go_roundw
            case rel => exact ⟨k + 1, by go_num, by omega, A2, c2, Lib.hid (by rw [stepsS_snoc]; exact done_step HY.out hgd)⟩
            case measure => simp only [intOf]; omega
          · go_simp
            refine hK.out _ _ ?_ (fun hHeld => ?_)
            · exact cell_al ((HL.out.rd.trans HR1.out).cell (j := 0) HX.out hq) _
            clear hK K
            (try simp only [Act.put, List.setIfInBounds_toArray, List.set_cons_zero, List.set_cons_succ])
            refine wpAnyH_ready (rs := [1]) (by decide +kernel) (by simp) ?_
            refine AllReadyH.cons (o := ⟨some 16, _, _, _, _, _⟩) rfl (fun K hK => ?_) AllReadyH.nil
            have d2 := cell_al d2 (.cells (stepQ l (stepsS l k s3)).arr 67)
            unfold Stp.arr at d2
            go_simp
            refine hK.out _ _ ?_ (fun hHeld => ?_)
            · exact cell_al ((HL.out.rd.trans HR1.out).cell (j := 0) HX.out hq) _
            clear hK K
            (try simp only [Act.put, List.setIfInBounds_toArray, List.set_cons_zero, List.set_cons_succ])
            refine wpAnyH_ready (rs := [5]) (by decide +kernel) (by simp) ?_
            refine AllReadyH.cons (o := ⟨some 20, _, _, _, _, _⟩) rfl (fun K hK => ?_) AllReadyH.nil
            refine step_append_at _ rfl (.tmp 16) (.tmp 19) 22 rfl W0.heap.size 67 i0 zstep 12 112 Try.underlying22 hi0 hz0 hz1 hz2 rfl (by decide) _ k _ rfl (ho1.alloc _) ⟨w1.heap.size, 0, none⟩ 1 1 (stepQ l (stepsS l k s3)).cells rfl (by rfl) (new_cells _ _) (cells_one _) (by unfold maxLen; omega) (by omega) (by have := HR1.out.size; have := HL.out.rd.size; simp; omega) ?_
            intro v2 w2 hown2 hg2 hat2
            rw [← cellsS_snoc, ← stepsQ_snoc] at hown2
            obtain ⟨A2, c2, rfl, hc2⟩ := own_form12 hown2
            have HY := Lib.hid (app_step HL.out HR1.out hgd hg2 hown2)
            clear hown2 hg2 hat2
            refine hK.out _ _ ?_ (fun hHeld => ?_)
            · exact HY.out.rd.cell (j := 0) HX.out hq
            clear hK K
            (try simp only [Act.put, List.setIfInBounds_toArray, List.set_cons_zero, List.set_cons_succ])
            have d2 : w2.cell? ⟨gd, 2, none⟩ = some (.slice A k c') := HY.out.box.cell 2
            have e2 := HY.out.box.frozen 2
            refine wpAnyH_take (i := 6) (oi := ⟨some 21, _, _, _, _, _⟩) (v := ?_) rfl (by kernel_rfl) (by kernel_rfl) (by kernel_rfl) (fun _ _ _ h => h) (Or.inl ⟨by rfl, ?_⟩) (by assumption) ?_
            rotate_left
            · (intro u hu; (try dsimp only at hu); go_simp; (try with_reducible rfl))
            (try simp only [Act.put, List.setIfInBounds_toArray, List.set_cons_zero, List.set_cons_succ])
            refine wpAnyH_ready (rs := [7]) (by decide +kernel) (by simp) ?_
            refine AllReadyH.cons (o := ⟨none, _, _, _, _, _⟩) rfl (fun K hK => ?_) AllReadyH.nil
            go_simp
            refine hK.out _ _ ?_ (fun hHeld => ?_)
            · exact cell_putfar (HY.out.rd.cell (j := 0) HX.out hq) (show u.heap.size ≠ gd by omega) _ _
            clear hK K
            (try simp only [Act.put])
            refine wpAnyH_done (by kernel_rfl) ?_ _
            go_wp2_with fail
            go_roundw
            case rel => exact ⟨k + 1, by go_num, by omega, A2, c2, Lib.hid (by rw [stepsS_snoc]; exact done_step HY.out hgd)⟩
            case measure => simp only [intOf]; omega
      · have hk2 : k = N := by omega
        subst hk2
        have d0 : wr.cell? ⟨gd, 0, none⟩ = some (.string nm) := HL.out.box.cell 0
        have d1 : wr.cell? ⟨gd, 1, none⟩ = some (.int .i64 dl) := HL.out.box.cell 1
        have d2 : wr.cell? ⟨gd, 2, none⟩ = some (.slice A k c') := HL.out.box.cell 2
        have HQr := Lib.hid (HL.out.rd.box HQ.out hq2)
        go_wp2_with (refine wpList_store_row rfl 24 (.tmp 2) (.tmp 23) rfl (u.heap.size + 1) 24 _ #[.string nm, .int .i64 dl, .slice A k c'] rfl rfl HQr.out (by show (Try.prog.info? 24).map (·.size) = some 3; kernel_rfl) rfl (by simp [Value.oneCell']) ?_)
        refine bodyPost_ret (results_cell_row rfl _ _ (u.heap.size + 1) 24 #[.string nm, .int .i64 dl, .slice A k c'] (0, 0) _ rfl (box_set HQr.out _) Try.underlying24 rfl (by show (Try.prog.info? 24).map (·.size) = some 3; kernel_rfl)) rfl (HE.out A c' _ ?_ ?_)
        · rw [HDS.out]
          exact (HU.out.trans HL.out.rd).row (by omega) _
        · rw [HDQ.out]
          have ho := own_lower HL.out.own (show u.heap.size ≤ W0.heap.size by omega)
          exact ho.kept (setRow_grown wr (u.heap.size + 1) _) (.inr (own_far ho HQr.out (by decide)))
end
end Go.Proofs.Ytihkadbcjeohjaa.Co
