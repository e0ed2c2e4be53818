/-
  What the program's mend, readRow, openFrom, Open and OpenAt answer of a store that is up: the log, and the payloads of its segments up to the first that isn't whole, which is mended; the memory and the mathematics for it.
  Conditions: the store is one, its power is there and no fuse is set; the library's table of powers of ten holds what its text lays.
-/
import Derived.Test.YtohnhboeipckjaaGreatDoorWalRem
import Derived.Test.YtohnhboeipckjaaGreatDoorRecSame
namespace Go.Proofs.YtohnhboeipckjaaGreatDoor
section
open Go.RowKit

theorem own_keep {w w' : World} {B : Nat} {e : TypeId} {v : Value} {n : Nat} {xs : List Value} {X : Nat → Prop} (h : w.ownsRow B e 1 v n xs) (hX : ∀ i, v.ownBlock = some i → X i) (hk : Keep X w w') : w'.ownsRow B e 1 v n xs := by
  refine ⟨h.1, h.2.imp id ?_⟩
  rintro ⟨q, c, cur, e1, hq, hh, rest⟩
  have hv : v.ownBlock = some q := by rw [e1]; rfl
  exact ⟨q, c, cur, e1, hq, (hk.block q (h.lt q hv).2 (hX q hv)).trans hh, rest⟩
/-- a slice of payloads, in blocks of X -/
structure Row (w : World) (B : Nat) (X : Nat → Prop) (v : Value) (xs : List El) : Prop where
  own : w.ownsRow B 31 1 v xs.length (xs.map El.val)
  pays : ∀ x ∈ xs, w.ownsRow B 5 1 x.val x.l.length (cellsB x.l)
  vX : ∀ i, v.ownBlock = some i → X i
  pX : ∀ x ∈ xs, ∀ i, x.val.ownBlock = some i → X i
theorem Row.keep {w w' : World} {B : Nat} {X : Nat → Prop} {v : Value} {xs : List El} (h : Row w B X v xs) (hk : Keep X w w') : Row w' B X v xs :=
  ⟨own_keep h.own h.vX hk, fun x hx => own_keep (h.pays x hx) (h.pX x hx) hk, h.vX, h.pX⟩
theorem Row.more {w : World} {B : Nat} {X Y : Nat → Prop} {v : Value} {xs : List El} (h : Row w B X v xs) (hY : ∀ i, X i → Y i) : Row w B Y v xs :=
  ⟨h.own, h.pays, fun i hi => hY i (h.vX i hi), fun x hx i hi => hY i (h.pX x hx i hi)⟩
theorem Row.below {w w' : World} {B : Nat} {X : Nat → Prop} {v : Value} {xs : List El} (h : Row w B X v xs) (hb : Below w.heap.size w w') : Row w' B X v xs := h.keep (Keep.of_below hb)
theorem Row.none (w : World) (B : Nat) (X : Nat → Prop) : Row w B X (.slice none 0 0) [] := ⟨World.ownsRow_nil _ _ _ _, fun x hx => by simp at hx, fun i hi => by simp [Value.ownBlock] at hi, fun x hx => by simp at hx⟩
theorem Row.sls {w : World} {B : Nat} {X : Nat → Prop} {A : Option Addr} {n c : Nat} {xs : List El} (h : Row w B X (.slice A n c) xs) (hn : n = xs.length) : SlsAt w A (xs.map El.l) := by
  subst hn
  exact slsAt_of (B' := B) h.own (fun x hx => h.pays x hx) rfl

/-- what is new since joins what is not the store's own -/
theorem Raw.wideG {w w' : World} {g bm : Nat} {X : Nat → Prop} {rs : List RF} {cap fuse : Nat} {down : Bool} {row : Option Nat} (h : Raw w g X bm rs cap fuse down) (hg : w.grownBy w' row) (hr : ∀ i, row = some i → X i) : Raw w' g (fun i => X i ∨ w.heap.size ≤ i ∧ i < w'.heap.size) bm rs cap fuse down := by
  have h' : Raw w' g X bm rs cap fuse down := h.stay hg.size fun i hi hown => hg.block i hi fun e => by
    have hx := hr i e.symm
    rcases hown with rfl | rfl | ⟨r, hr', ho⟩
    · exact h.xg hx
    · exact h.xm hx
    · exact (h.own r hr').2 i ho hx
  refine ⟨h'.box, ?_, ?_, ?_, h'.map, fun r hr => ⟨(h'.own r hr).1, fun i hi => ?_⟩, h'.apart, h'.ok⟩
  · rintro (h1 | h1)
    · exact h.xg h1
    · have := h.box.lt; omega
  · rintro (h1 | h1)
    · exact h.xm h1
    · have := h.mlt; omega
  · rintro i (h1 | h1)
    · exact h'.xlt i h1
    · exact h1.2
  · rintro (h1 | h1)
    · exact (h.own r hr).2 i hi h1
    · have := ((h.own r hr).1.lt i hi).2; omega
theorem Sto.wideG {w w' : World} {g : Nat} {X : Nat → Prop} {s : St} {row : Option Nat} (h : Sto w g X s) (hg : w.grownBy w' row) (hr : ∀ i, row = some i → X i) : Sto w' g (fun i => X i ∨ w.heap.size ≤ i ∧ i < w'.heap.size) s := by
  obtain ⟨bm, rs, h1, h2⟩ := h
  exact ⟨bm, rs, h1.wideG hg hr, h2⟩
theorem Keep.grown {X : Nat → Prop} {a b c : World} {row : Option Nat} (h : Keep X a b) (hg : b.grownBy c row) (hr : ∀ i, row = some i → ¬ (X i ∧ i < a.heap.size)) : Keep X a c :=
  ⟨hg.os.trans h.os, hg.tape.trans h.tape, hg.output.trans h.output, Nat.le_trans h.size hg.size, fun i hi hx => (hg.block i (by have := h.size; omega) (fun e => hr i e.symm ⟨hx, hi⟩)).trans (h.block i hi hx)⟩

/-- append(row, others...) -/
theorem run_append_rows {P : Program} (w : World) (base : Nat) (t ty e : TypeId) (i : TypeInfo) (z : Value) (bytes : Nat) (ht : P.underlying t = some (.slice e)) (hi : P.info? e = some i) (hz : i.zero = some z)
    (hsize : i.size = 1) (hby : i.bytes = bytes) (hzs : z.cells.size = 1) (v : Value) (n : Nat) (xs : List Value) (hown : w.ownsRow base e 1 v n xs) (B' : Nat) (A : Option Addr) (m c : Nat) (ys : List Value) (hsrc : w.ownsRow B' e 1 (.slice A m c) m ys)
    (h1 : ∀ u ∈ ys, u.oneCell' = true) (h63 : n + m ≤ maxLen) (hb : (n + m) * bytes ≤ 140737488355328) (hbase : base ≤ w.heap.size) :
    ∃ v' w', (Builtin.append_ #[t, t] ty #[v, .slice A m c]).run P w = .ok v' w' ∧ w'.ownsRow base e 1 v' (n + m) (xs ++ ys) ∧ w.grownBy w' v.ownBlock ∧ (v'.ownBlock = v.ownBlock ∨ v'.ownBlock = some w.heap.size) := by
  have hlen : ys.length = m := by simpa using hsrc.1
  rcases hsrc.2 with ⟨h0, rfl⟩ | ⟨g, cap, cur, h0, _, hh, hc1, _, _, hc4⟩
  · injection h0 with e1 _ e2
    subst e1 e2
    obtain rfl : ys = [] := List.eq_nil_of_length_eq_zero hlen
    refine ⟨v, w, ?_, by simpa using hown, World.grownBy.refl w _, .inl rfl⟩
    rcases hown.2 with ⟨rfl, rfl⟩ | ⟨g, cap, cur, rfl, _, _, hnc, _⟩
    · simp [Builtin.append_, run_underlying ht, sizeOf, typeInfo, hi, Builtin.lenOf, Builtin.firstCells]
    · simp [Builtin.append_, run_underlying ht, sizeOf, typeInfo, hi, Builtin.lenOf, Builtin.firstCells, hnc, storeCells]
  · injection h0 with e1 _ e2
    subst e1 e2
    obtain ⟨v', w', h2, h3, h4, _, h5⟩ := run_append_own_at (P := P) w base t ty e i z 1 bytes ht hi hz hsize hby hzs (by omega) v n xs hown ⟨g, 0, none⟩ m c ys (by omega) (fun j u hu => by
      have hj : j < m := by
        rcases Nat.lt_or_ge j ys.length with h | h
        · omega
        · rw [List.getElem?_eq_none h] at hu; cases hu
      rw [show (⟨g, 0, none⟩ : Addr).add j = ⟨g, j, none⟩ by unfold Addr.add; split <;> simp_all, hsrc.cellAt j (by omega)]
      exact hu) h1 h63 hb hbase
    exact ⟨v', w', h2, h3, h4, h5⟩
theorem wpList_append_rows {P : Program} (w : World) {ops : Array Oper} {rest : List Oper} {o : Oper} {a : Act} {Q : Exit → Act → World → Prop} (hgd : o.guard = Option.none) (s x : Operand) (t : TypeId)
    (ho : o.op = .call { callee := .builtin .append, args := #[s, x], argTypes := #[t, t] }) (base : Nat) (e : TypeId) (i : TypeInfo) (z : Value) (bytes : Nat) (ht : P.underlying t = some (.slice e)) (hi : P.info? e = some i) (hz : i.zero = some z)
    (hsize : i.size = 1) (hby : i.bytes = bytes) (hzs : z.cells.size = 1) (v : Value) (n : Nat) (xs : List Value) (hs : a.eval s = v) (hown : w.ownsRow base e 1 v n xs) (B' : Nat) (A : Option Addr) (m c : Nat) (ys : List Value) (hx : a.eval x = .slice A m c)
    (hsrc : w.ownsRow B' e 1 (.slice A m c) m ys) (h1 : ∀ u ∈ ys, u.oneCell' = true) (h63 : n + m ≤ maxLen) (hb : (n + m) * bytes ≤ 140737488355328) (hbase : base ≤ w.heap.size)
    (h : ∀ v' w', w'.ownsRow base e 1 v' (n + m) (xs ++ ys) → w.grownBy w' v.ownBlock → (v'.ownBlock = v.ownBlock ∨ v'.ownBlock = some w.heap.size) → wpList P ops Q rest (a.put o.dst v') w') : wpList P ops Q (o :: rest) a w := by
  obtain ⟨v', w', hrun, h2, h3, h4⟩ := run_append_rows (P := P) w base t o.type e i z bytes ht hi hz hsize hby hzs v n xs hown B' A m c ys hsrc h1 h63 hb hbase
  refine wpList_plain hgd fun _ hK => ?_
  unfold Oper.wp execOp
  simp only [ho, resolve, invoke, builtin, Sem.run_bind, Sem.run_pure, Result.andThen_ok, List.map_toArray, List.map_cons, List.map_nil, hs, hx, hrun]
  exact hK _ _ (h v' w' h2 h3 h4)

/-! ### What mending leaves -/
theorem look_sync {fs : List Fl} (h : Rise Fl.name fs) (x y : List UInt8) : lookBy Fl.name y (syncF x fs) = if y = x then (lookBy Fl.name x fs).map (fun f => { f with safe := f.bs.length, stays := true }) else lookBy Fl.name y fs := by
  unfold syncF
  cases hl : lookBy Fl.name x fs with
  | none =>
    by_cases e : y = x
    · rw [if_pos e, e, hl]; rfl
    · rw [if_neg e]
  | some f =>
    have hn := (lookBy_some hl).2
    simp only
    rw [look_put h]
    simp only [hn]
    by_cases e : y = x
    · rw [if_pos e, if_pos e.symm]; simp [hn]
    · rw [if_neg e, if_neg (fun h => e h.symm)]
theorem con_sync {fs : List Fl} (h : Rise Fl.name fs) (x y : List UInt8) : conF y (syncF x fs) = conF y fs := by
  unfold conF
  rw [look_sync h]
  split
  · rename_i e; rw [e]; cases lookBy Fl.name x fs <;> rfl
  · rfl
theorem is_sync {fs : List Fl} (h : Rise Fl.name fs) (x y : List UInt8) : (lookBy Fl.name y (syncF x fs)).isSome = (lookBy Fl.name y fs).isSome := by
  rw [look_sync h]
  split
  · rename_i e; rw [e]; cases lookBy Fl.name x fs <;> rfl
  · rfl
theorem look_trunc {fs : List Fl} (h : Rise Fl.name fs) (x y : List UInt8) (n : Nat) : lookBy Fl.name y (truncF x n fs) = if y = x then (lookBy Fl.name x fs).map (fun f => { f with bs := f.bs.take n, safe := min f.safe n }) else lookBy Fl.name y fs := by
  unfold truncF
  cases hl : lookBy Fl.name x fs with
  | none =>
    by_cases e : y = x
    · rw [if_pos e, e, hl]; rfl
    · rw [if_neg e]
  | some f =>
    have hn := (lookBy_some hl).2
    simp only
    rw [look_put h]
    simp only [hn]
    by_cases e : y = x
    · rw [if_pos e, if_pos e.symm]; simp [hn]
    · rw [if_neg e, if_neg (fun h => e h.symm)]
theorem rise_delN (ns : List Nat) {fs : List Fl} (h : Rise Fl.name fs) : Rise Fl.name (delN ns fs) := by
  induction ns generalizing fs with
  | nil => exact h
  | cons n ns ih => rw [delN_cons]; exact ih (delBy_rise h)
theorem rise_sync (x : List UInt8) {fs : List Fl} (h : Rise Fl.name fs) : Rise Fl.name (syncF x fs) := by
  unfold syncF
  split
  · exact h
  · exact putBy_rise h
theorem rise_trunc (x : List UInt8) (n : Nat) {fs : List Fl} (h : Rise Fl.name fs) : Rise Fl.name (truncF x n fs) := by
  unfold truncF
  split
  · exact h
  · exact putBy_rise h
theorem len_put {fs : List Fl} (h : Rise Fl.name fs) (f : Fl) : (putBy Fl.name f fs).length = if (lookBy Fl.name f.name fs).isNone then fs.length + 1 else fs.length := by
  have := sum_putBy (fun _ : Fl => 1) (f := f) h
  have e : ∀ l : List Fl, (l.map fun _ : Fl => 1).sum = l.length := by intro l; induction l <;> simp_all; omega
  rw [e, e] at this
  cases hl : lookBy Fl.name f.name fs <;> simp [hl] at this ⊢ <;> omega
theorem fewer_put {fs : List Fl} (h : Rise Fl.name fs) {f f0 : Fl} {n : Nat} (hn : okN n) (hf : f.name = segL n) (h0 : lookBy Fl.name f.name fs = some f0) (hl : f.bs.length ≤ f0.bs.length) : Fewer fs (putBy Fl.name f fs) := by
  refine ⟨?_, ?_, fun x hx => ?_⟩
  · have := sum_putBy (fun f : Fl => f.bs.length) (f := f) h
    rw [h0] at this
    unfold usedF
    simp only [Option.map_some, Option.getD_some] at this
    omega
  · rw [len_put h, h0]
    simp
  · rw [look_put h, if_neg]
    rw [hf]
    exact fun e => not_seg hx hn e.symm
theorem fewer_sync {fs : List Fl} (h : Rise Fl.name fs) {n : Nat} (hn : okN n) : Fewer fs (syncF (segL n) fs) := by
  unfold syncF
  split
  · exact Fewer.refl _
  · rename_i f hf
    exact fewer_put h hn (lookBy_some hf).2 (f0 := f) (by simp only [(lookBy_some hf).2]; exact hf) (Nat.le_refl _)
theorem fewer_trunc {fs : List Fl} (h : Rise Fl.name fs) {n : Nat} (hn : okN n) (k : Nat) : Fewer fs (truncF (segL n) k fs) := by
  unfold truncF
  split
  · exact Fewer.refl _
  · rename_i f hf
    exact fewer_put h hn (lookBy_some hf).2 (f0 := f) (by simp only [(lookBy_some hf).2]; exact hf) (by simp only [List.length_take]; omega)
/-- the segments are whole: nothing is mended -/
theorem row_whole {fs : List Fl} {first : Nat} {ds : List (List UInt8)} (h : SegAre fs first ds) (hw : ∀ k (hk : k < ds.length), allN ds[k] = ds[k].length) : SegAre fs first ((runC ds).map catL) := by
  have e : (runC ds).map catL = ds := by
    rw [runC_whole hw, List.map_map]
    apply List.ext_getElem
    · simp
    · intro k h1 h2
      simp only [List.getElem_map, Function.comp_apply]
      rw [← (all_cut ds[k]).1, hw k h2, List.take_length]
  rw [e]
  exact h
/-- what mending leaves is whole -/
theorem row_torn {fs : List Fl} (hr : Rise Fl.name fs) {first i : Nat} {ds : List (List UInt8)} (h : SegAre fs first ds) (hi : i < ds.length) (hw : ∀ k (hk : k < ds.length), k < i → allN ds[k] = ds[k].length) (ht : allN ds[i] ≠ ds[i].length) :
    SegAre (syncF (segL (first + i)) (truncF (segL (first + i)) (allN ds[i]) (delN (List.range' (first + i + 1) (ds.length - (i + 1))) fs))) first ((runC ds).map catL) ∧
      Fewer fs (syncF (segL (first + i)) (truncF (segL (first + i)) (allN ds[i]) (delN (List.range' (first + i + 1) (ds.length - (i + 1))) fs))) := by
  have hR := runC_torn hi (fun k hk => hw k (by omega) hk) ht
  have hok := h.ok i hi
  have hr1 := rise_delN (List.range' (first + i + 1) (ds.length - (i + 1))) hr
  have hr2 := rise_trunc (segL (first + i)) (allN ds[i]) hr1
  have hnum : ∀ n ∈ List.range' (first + i + 1) (ds.length - (i + 1)), okN n := fun n hn => by
    rw [List.mem_range'_1] at hn
    have := h.ok (n - first) (by omega)
    rwa [show first + (n - first) = n by omega] at this
  have hin : ∀ n, okN n → (segL n ∈ (List.range' (first + i + 1) (ds.length - (i + 1))).map segL ↔ first + i + 1 ≤ n ∧ n < first + ds.length) := fun n hn => by
    rw [List.mem_map]
    constructor
    · rintro ⟨m, hm, e⟩
      have := seg_inj (hnum m hm) hn e
      subst this
      rw [List.mem_range'_1] at hm
      omega
    · intro hb
      exact ⟨n, by rw [List.mem_range'_1]; omega, rfl⟩
  have hlook : ∀ n, okN n → n ≠ first + i → lookBy Fl.name (segL n) (truncF (segL (first + i)) (allN ds[i]) (delN (List.range' (first + i + 1) (ds.length - (i + 1))) fs)) = if first + i + 1 ≤ n ∧ n < first + ds.length then none else lookBy Fl.name (segL n) fs := fun n hn hne => by
    rw [look_trunc hr1, if_neg (fun e => hne (seg_inj hn hok e)), look_delN]
    by_cases hb : first + i + 1 ≤ n ∧ n < first + ds.length
    · rw [if_pos ((hin n hn).2 hb), if_pos hb]
    · rw [if_neg (fun h => hb ((hin n hn).1 h)), if_neg hb]
  have hlen : ((runC ds).map catL).length = i + 1 := by rw [hR, List.length_map, List.length_map, List.length_take]; omega
  have hat : ∀ k (hk : k < i + 1), ((runC ds).map catL)[k]'(by omega) = (ds[k]'(by omega)).take (allN (ds[k]'(by omega))) := fun k hk => by
    simp only [hR, List.getElem_map, List.getElem_take]
    exact (all_cut _).1.symm
  refine ⟨⟨fun k hk => h.ok k (by omega), fun k hk => ?_, fun n hn hno => ?_⟩, ?_⟩
  · rw [con_sync hr2, hat k (by omega)]
    by_cases e : k = i
    · subst e
      obtain ⟨f, hf, hfb⟩ := con_some (h.con k hi)
      unfold conF
      rw [look_trunc hr1, if_pos rfl, look_delN, if_neg (fun hm => by have := (hin _ hok).1 hm; omega), hf, ← hfb]
      rfl
    · have hk' : k < i := by omega
      unfold conF
      rw [hlook _ (h.ok k (by omega)) (by omega), if_neg (by omega), hw k (by omega) hk', List.take_length]
      exact h.con k (by omega)
  · have hne : n ≠ first + i := by rw [hlen] at hno; omega
    have h0 := hlook n hn hne
    have h1 : lookBy Fl.name (segL n) (truncF (segL (first + i)) (allN ds[i]) (delN (List.range' (first + i + 1) (ds.length - (i + 1))) fs)) = none := by
      rw [h0]
      split
      · rfl
      · exact h.no n hn (by rw [hlen] at hno; omega)
    rw [look_sync hr2, if_neg (fun e => hne (seg_inj hn hok e)), h1]
  · exact ((fewer_delN hnum fs).trans (fewer_trunc hr1 hok _)).trans (fewer_sync hr2 hok)
theorem restE_all (d : List UInt8) : restE d (allN d) = 0 ↔ allN d = d.length := by
  unfold restE
  constructor
  · intro h
    split at h
    · assumption
    · split at h <;> cases h
  · intro h
    rw [if_pos h]
end

section
open Go.RowKit

theorem done_up {w w' : World} {g : Nat} {X : Nat → Prop} {r : St × Nat} {st : St} {n : Nat} {z : Int} {e : Ending} (h : Done w g X r e w') (hr : r = (st, n)) (hz : (n : Int) = z) : e = .returned (.int .i64 z) ∧ Sto w' g X st ∧ Keep X w w' := by
  subst hr hz
  exact h
set_option maxRecDepth 100000 in
set_option maxHeartbeats 2000000 in
theorem mend_any (g : Nat) (X : Nat → Prop) (st : St) (A : Option Addr) (n0 N : Nat) (rest : List Nat) (c whole : Nat) (f : Fl) (w : World) (hS : Sto w g X st) (hT : Tab w X) (hU : Up st) (hN : Nums w X A (n0 :: rest)) (hNe : N = rest.length + 1) (hc : N ≤ c) (hok : okN n0)
    (hf : lookBy Fl.name (segL n0) st.fs = some f) (hw : whole ≤ f.bs.length) (hH : There rest st.fs) (hne : n0 ∉ rest) (hl : rest.length ≤ 1000) :
    Calls Tryz.prog 65 #[.pointer (some ⟨g, 0, none⟩), .slice A N c, .int .i64 (whole : Int)] w fun e w' => e = .returned (.int .i64 0) ∧ Sto w' g X (st.with (syncF (segL n0) (truncF (segL n0) whole (delN rest st.fs)))) ∧ Keep X w w' := by
  obtain ⟨b0, o0, rfl, hb0, hbl, _⟩ := hN.get (k := 0) (by simp)
  have hc1 : c ≠ 1 ∨ rest = [] := by
    by_cases e : rest = []
    · exact .inr e
    · have := List.length_pos_iff.2 e; exact .inl (by omega)
  have hdr := hN.drop (n := 1) (c := c) (by simp; omega)
  rw [show (n0 :: rest).drop 1 = rest from rfl] at hdr
  have hk1 := cutI_from w (some ⟨b0, o0, none⟩) N c 1 (by omega)
  simp only [Int.natCast_one] at hk1
  generalize (if c = 1 then some (⟨b0, o0, none⟩ : Addr) else (some (⟨b0, o0, none⟩ : Addr)).map (·.add 1)) = A2 at hdr hk1
  have hR := wremove_any g X st A2 rest (c - 1) w hS hT hU hdr hH (by omega)
  obtain ⟨L, hL⟩ : ∃ L, L = rest.length := ⟨_, rfl⟩
  rw [show N - 1 = L by omega] at hk1
  rw [← hL] at hR
  have HR := Lib.hid hR
  have h0N : 0 < N := by omega
  have h1N : 1 ≤ N := by omega
  have hlk : lookBy Fl.name (segL n0) (delN rest st.fs) = some f := by
    rw [look_delN, if_neg, hf]
    intro hm
    obtain ⟨m, hm, e⟩ := List.mem_map.1 hm
    rw [seg_inj (hH.ok m hm) hok e] at hm
    exact hne hm
  have hri := rise_delN rest hS.ok.rise
  have e1 := trunc_up (hU.with (delN rest st.fs)) hlk hw
  have e2 := sync_up ((hU.with (delN rest st.fs)).with (truncF (segL n0) whole (delN rest st.fs))) (segL n0)
  have hiss : (lookBy Fl.name (segL n0) (truncF (segL n0) whole (delN rest st.fs))).isSome = true := by rw [look_trunc hri, if_pos rfl, hlk]; rfl
  rw [show ((st.with (delN rest st.fs)).with (truncF (segL n0) whole (delN rest st.fs))).fs = truncF (segL n0) whole (delN rest st.fs) from rfl, hiss] at e2
  have hsz := seg_size hok
  have HE1 := Lib.hid e1
  have HE2 := Lib.hid e2
  have HN := Lib.hid hN
  have HT := Lib.hid hT
  clear hdr hR hL hNe hc1 hlk hri hiss e1 e2 hN hT hH hne hf hw hS hU hl
  go_enter Tryz.func65, Tryz.ntmps65
  go_wp2_with fail
  (with_reducible refine HR.out.mono ?_)
  rintro e W1 ⟨rfl, hS1, hK1⟩
  have hc0 : W1.cell? ⟨b0, o0, none⟩ = some (.int .i64 (n0 : Int)) := by
    obtain ⟨b', o', e, _, _, hc⟩ := (HN.out.keep hK1).get (k := 0) (by simp)
    injection e with e
    injection e with e1 e2
    subst e1 e2
    exact hc
  have HNM := Lib.hid (name_ok X W1 (HT.out.on hK1 (fun _ h => h)) hok)
  have HS1 := Lib.hid hS1
  have HK1 := Lib.hid hK1
  clear HR hS1 hK1
  go_wp2_with fail
  (with_reducible refine HNM.out.mono ?_)
  rintro e W2 ⟨rfl, b2⟩
  have HTR := Lib.hid (trunc_any g X _ ⟨(segL n0).toArray⟩ W2 (whole : Int) (HS1.out.below b2) hsz)
  have HK2 := Lib.hid (HK1.out.trans (Keep.of_below b2))
  clear HNM b2 HK1
  go_wp2_with fail
  refine HTR.out.mono ?_
  intro e W3 hD
  obtain ⟨rfl, hS3, hK3⟩ := done_up hD HE1.out rfl
  have HSY := Lib.hid (sync_any g X _ ⟨(segL n0).toArray⟩ W3 hS3 hsz)
  have HK3 := Lib.hid (HK2.out.trans hK3)
  clear hD hS3 hK3 HTR HK2
  go_wp2_with fail
  refine HSY.out.mono ?_
  intro e W4 hD
  obtain ⟨rfl, hS4, hK4⟩ := done_up hD HE2.out rfl
  have HS4 := Lib.hid hS4
  have HK4 := Lib.hid (HK3.out.trans hK4)
  clear hD hS4 hK4 HSY HK3
  go_wp2
  go_ret
  exact ⟨rfl, HS4.out, HK4.out⟩

/-- what readRow answers -/
def RowRead (w : World) (g : Nat) (X : Nat → Prop) (st : St) (first : Nat) (ds : List (List UInt8)) (e : Ending) (w' : World) : Prop :=
  ∃ (v : Value) (xs : List El) (X' : Nat → Prop) (fs' : List Fl), e = .returned (.tuple #[v, .int .i64 ((runC ds).length : Nat), .int .i64 0]) ∧ Row w' w.heap.size X' v xs ∧ xs.map El.l = (runC ds).flatten ∧ Sto w' g X' (st.with fs') ∧
    SegAre fs' first ((runC ds).map catL) ∧ Fewer st.fs fs' ∧ (∀ i, X i → X' i) ∧ Keep X w w'
/-- where the loop of readRow stands -/
structure ReadAt (w : World) (g : Nat) (X : Nat → Prop) (st : St) (ds : List (List UInt8)) (i n : Nat) (v : Value) (X' : Nat → Prop) (xs : List El) (wr : World) : Prop where
  row : Row wr w.heap.size X' v xs
  sto : Sto wr g X' st
  more : ∀ i, X i → X' i
  keep : Keep X w wr
  size : xs.length = n
  pays : xs.map El.l = ((ds.take i).map allP).flatten
theorem next_row {w wr W2 W3 w4 : World} {g : Nat} {X X' : Nat → Prop} {st : St} {ds : List (List UInt8)} {i n m : Nat} {v v4 : Value} {xs ys : List El} {d : List UInt8} (hR : ReadAt w g X st ds i n v X' xs wr) (hb : Below wr.heap.size wr W3)
    (h2 : wr.heap.size ≤ W2.heap.size) (hyp : ∀ x ∈ ys, Pay W3 W2.heap.size x) (hm : m = ys.length) (hO : w4.ownsRow w.heap.size 31 1 v4 (n + m) (xs.map El.val ++ ys.map El.val)) (hG : W3.grownBy w4 v.ownBlock)
    (hAt : v4.ownBlock = v.ownBlock ∨ v4.ownBlock = some W3.heap.size) (hyl : ys.map El.l = allP d) (htf : ((ds.take (i + 1)).map allP).flatten = ((ds.take i).map allP).flatten ++ allP d) : ∃ X4, ReadAt w g X st ds (i + 1) (n + m) v4 X4 (xs ++ ys) w4 := by
  have hR3 := hR.row.below hb
  have hw0 := hR.keep.size
  have hsz := hG.size
  refine ⟨fun j => (X' j ∨ wr.heap.size ≤ j ∧ j < W3.heap.size) ∨ W3.heap.size ≤ j ∧ j < w4.heap.size, ⟨?_, fun x hx => ?_, fun j hj => ?_, fun x hx j hj => ?_⟩, (hR.sto.wide hb).wideG hG (fun j hj => .inl (hR.row.vX j hj)), fun j hj => .inl (.inl (hR.more j hj)), ?_, ?_, ?_⟩
  · rw [List.length_append, List.map_append, hR.size, ← hm]
    exact hO
  · rcases List.mem_append.1 hx with hx | hx
    · exact kept_row (hR3.pays x hx) hR3.own (by decide) hG
    · exact kept_row (own_base (hyp x hx) (by omega)) hR3.own (by decide) hG
  · rcases hAt with e | e
    · exact .inl (.inl (hR.row.vX j (by rw [← e]; exact hj)))
    · rw [e] at hj
      injection hj with hj
      have := (hO.lt j (by rw [e, hj])).2
      exact .inr ⟨by omega, this⟩
  · rcases List.mem_append.1 hx with hx | hx
    · exact .inl (.inl (hR.row.pX x hx j hj))
    · have h1 := World.ownsRow.lt (hyp x hx) j hj
      exact .inl (.inr ⟨by omega, h1.2⟩)
  · exact (hR.keep.trans (Keep.of_below hb)).grown hG fun j hj ⟨_, hlt⟩ => by
      have := (hR.row.own.lt j hj).1
      omega
  · rw [List.length_append, hR.size, hm]
  · rw [List.map_append, hR.pays, hyl, htf]
theorem read_is {w w' : World} {bs : List UInt8} {er : Nat} {e : Ending} (h : ReadIs w bs er e w') : ∃ A c, e = .returned (.tuple #[.slice A bs.length c, .int .i64 (er : Int)]) ∧ Byt w' w'.heap.size A bs ∧ bs.length ≤ c ∧ Below w.heap.size w w' := by
  obtain ⟨v, rfl, ho, hb⟩ := h
  obtain ⟨A, c, rfl, hc⟩ := own_form ho
  exact ⟨A, c, rfl, Byt.own ho, hc, hb⟩
/-- what All answers, by the bytes -/
theorem all_is {A : Option Addr} {b : List UInt8} {c L : Nat} {w : World} (hb : Byt w w.heap.size A b) (hL : b.length = L) (hc : L ≤ c) (hl : L ≤ 1099511627776) :
    Calls Tryz.prog 64 #[.slice A L c] w fun e w' => ∃ (A' : Option Addr) (c' : Nat) (xs : List El), e = .returned (.tuple #[.slice A' xs.length c', .int .i64 (allN b : Int), .int .i64 (restE b (allN b) : Int)]) ∧ xs.map El.l = allP b ∧
      w'.ownsRow w.heap.size 31 1 (.slice A' xs.length c') xs.length (xs.map El.val) ∧ (∀ x ∈ xs, Pay w' w.heap.size x) ∧ Below w.heap.size w w' := by
  subst hL
  refine (all_any A b c w hb hc hl).mono ?_
  rintro e w' ⟨xs, v, rfl, hW, ho, hp, hB⟩
  obtain ⟨h1, h2⟩ := all_eq hW
  obtain ⟨A', c', rfl, _⟩ := own_form ho
  exact ⟨A', c', xs, by rw [h2], h1.symm, ho, hp, hB⟩

theorem take_flat {ds : List (List UInt8)} {i : Nat} (hi : i < ds.length) : ((ds.take (i + 1)).map allP).flatten = ((ds.take i).map allP).flatten ++ allP ds[i] := by
  rw [List.take_succ_eq_append_getElem hi, List.map_append, List.flatten_append]
  simp
theorem range_at {first L i : Nat} (hi : i < L) : (List.range' first L)[i]'(by simpa using hi) = first + i := by simp
theorem range_drop {first L i : Nat} (hi : i < L) : (List.range' first L).drop i = (first + i) :: List.range' (first + i + 1) (L - (i + 1)) := by
  rw [List.drop_eq_getElem_cons (by simpa using hi)]
  congr 1
  · simp
  · apply List.ext_getElem
    · simp
    · intro k h1 h2
      simp
      omega

set_option maxRecDepth 100000 in
set_option maxHeartbeats 8000000 in
theorem readRow_any (g : Nat) (X : Nat → Prop) (st : St) (A : Option Addr) (first c N : Nat) (ds : List (List UInt8)) (w : World) (hS : Sto w g X st) (hT : Tab w X) (hU : Up st) (hN : Nums w X A (List.range' first ds.length)) (hNe : N = ds.length) (hc : N ≤ c) (hN256 : N ≤ 256) (hA : SegAre st.fs first ds) :
    Calls Tryz.prog 49 #[.pointer (some ⟨g, 0, none⟩), .slice A N c] w (RowRead w g X st first ds) := by
  obtain ⟨i0, hi0, hz0, hz1, hz2⟩ := info_parts info22
  have HE := Lib.hid hNe
  have HN := Lib.hid hN
  have HT := Lib.hid hT
  have HU := Lib.hid hU
  have HA := Lib.hid hA
  have HST : Hid (ReadAt w g X st ds 0 0 (.slice none 0 0) X [] w) := Lib.hid ⟨Row.none _ _ _, hS, fun _ h => h, Keep.refl _ _, rfl, by simp⟩
  have HOK := Lib.hid hS.ok
  clear hN hT hU hA hS hNe
  go_enter Tryz.func49, Tryz.ntmps49
  go_wp2
  go_loopw [4, 16] (fun v p wr => ∃ i n : Nat, p = .int .i64 i ∧ i ≤ N ∧ n ≤ i * 1300000 ∧ Hid (∃ X' xs, ReadAt w g X st ds i n v X' xs wr) ∧ Hid (∀ k (h : k < ds.length), k < i → allN ds[k] = ds[k].length)) (fun _ p _ => N - (intOf p).toNat)
  case atStart => exact ⟨0, 0, rfl, by omega, by omega, Lib.hid ⟨X, [], HST.out⟩, Lib.hid fun k _ h => by omega⟩
  case round =>
    obtain ⟨i, n, rfl, hi, hn, HRA, HWK⟩ := hrel
    obtain ⟨X', xs, hRA⟩ := HRA.out
    have HR := Lib.hid hRA
    clear hRA HRA
    by_cases hlt : i < N
    · have hid : i < ds.length := by rw [← HE.out]; exact hlt
      obtain ⟨b0, o0, rfl, _, hb0, hc0⟩ := (HN.out.keep HR.out.keep).get (k := i) (by rw [List.length_range']; exact hid)
      rw [range_at hid] at hc0
      have hok := HA.out.ok i hid
      obtain ⟨f, hf, hfb⟩ := con_some (HA.out.con i hid)
      have HX := HT.out.on HR.out.keep HR.out.more
      have HNM := Lib.hid (name_ok X' wr HX hok)
      have hsz := seg_size hok
      have hfl : f.bs.length ≤ 16777216 := by
        have h1 := used_take (s := st) (lookBy_some hf).1
        have h2 := HOK.out.used
        have h3 := HOK.out.cap
        omega
      have hrb : readB st (segL (first + i)) = ds[i] ∧ readE st (segL (first + i)) = 0 := by
        unfold readB readE
        rw [HU.out.down, hf, ← hfb]
        exact ⟨rfl, rfl⟩
      have HRD : ∀ w2, Below wr.heap.size wr w2 → Hid (Calls Tryz.prog 21 #[.pointer (some ⟨g, 0, none⟩), .string ⟨(segL (first + i)).toArray⟩] w2 (ReadIs w2 ds[i] 0)) := fun w2 hb => Lib.hid (by
        have h := read_any g X' st ⟨(segL (first + i)).toArray⟩ w2 (HR.out.sto.below hb) hsz
        rw [show (⟨(segL (first + i)).toArray⟩ : ByteArray).data.toList = segL (first + i) from rfl, hrb.1, hrb.2] at h
        exact h)
      have HF := Lib.hid hf
      have hcount := all_count ds[i]
      have hle := allN_le ds[i]
      have HTF := Lib.hid (take_flat hid)
      have HFB := Lib.hid hfb
      have hdl : ds[i].length ≤ 16777216 := by rw [← hfb]; exact hfl
      have HROW := Lib.hid (fun h => row_torn HOK.out.rise HA.out hid HWK.out h)
      have HRT := Lib.hid (fun h => runC_torn hid (fun k hk => HWK.out k (by omega) hk) h)
      have HWH : Hid (allN ds[i] = ds[i].length → ∀ k (h : k < ds.length), k < i + 1 → allN ds[k] = ds[k].length) := Lib.hid fun h k hk hki => by
        by_cases e : k = i
        · subst e; exact h
        · exact HWK.out k hk (by omega)
      have HRE := Lib.hid (restE_all ds[i])
      obtain ⟨q, hq⟩ : ∃ q, q = first + i := ⟨_, rfl⟩
      have HQ := Lib.hid hq
      rw [← hq] at hc0 hok hsz HNM HRD HF HROW
      obtain ⟨d, hd⟩ : ∃ d, d = ds[i] := ⟨_, rfl⟩
      rw [← hd] at hrb HRD hcount hle HTF HFB hdl HROW HWH HRE HRT
      clear hf hfb hrb hq hd HX hfl
      go_wp2_with fail
      (with_reducible refine HNM.out.mono ?_)
      rintro e W1 ⟨rfl, b1⟩
      have HRD := HRD W1 b1
      have HB1 := Lib.hid b1
      clear HNM b1
      go_wp2_with fail
      refine HRD.out.mono ?_
      intro e W2 hD
      obtain ⟨A2, c2, rfl, hby2, hc2, b2⟩ := read_is hD
      obtain ⟨L2, hL2⟩ : ∃ L, d.length = L := ⟨_, rfl⟩
      rw [hL2] at hc2 ⊢
      have HAL := Lib.hid (all_is (c := c2) hby2 hL2 hc2 (by omega))
      have HB2 := Lib.hid (HB1.out.trans (b2.mono HB1.out.size))
      have HL2 := Lib.hid hL2
      clear hD HRD hby2 b2 HB1 hL2
      go_wp2_with fail
      refine HAL.out.mono ?_
      rintro e W3 ⟨A3, c3, ys, rfl, hyl, hyo, hyp, b3⟩
      have b3' := HB2.out.trans (b3.mono HB2.out.size)
      have HS3 := Lib.hid (HR.out.sto.wide b3')
      have HR3 := Lib.hid (HR.out.row.below b3')
      have hyn : ys.length * 13 ≤ 16777216 := by
        have : ys.length = (allP d).length := by rw [← hyl, List.length_map]
        omega
      obtain ⟨m, hm⟩ : ∃ m, m = ys.length := ⟨_, rfl⟩
      rw [← hm] at hyn
      have hyo' := hyo
      rw [← hm] at hyo' ⊢
      have HYO := Lib.hid hyo'
      have HYP := Lib.hid hyp
      have HYL := Lib.hid hyl
      have HM := Lib.hid hm
      have HB3 := Lib.hid b3'
      have hyb : W2.heap.size ≤ W3.heap.size := b3.size
      have HW2 := HB2.out.size
      have HW0 := HR.out.keep.size
      have hrow0 := HR3.out.own
      rw [HR.out.size] at hrow0
      have HRO := Lib.hid hrow0
      have hn2 : n ≤ 332800000 := by omega
      clear HAL hyl hyo hyo' hyp hm b3 b3' HB2 hcount hrow0
      obtain ⟨r, hr⟩ : ∃ r, r = restE d (allN d) := ⟨_, rfl⟩
      rw [← hr]
      rw [← hr] at HRE
      rw [HL2.out] at hle
      obtain ⟨a, ha⟩ : ∃ a, a = allN d := ⟨_, rfl⟩
      rw [← ha] at hle HROW HRT HWH HRE ⊢
      have HAE := Lib.hid ha
      clear hr ha
      by_cases hr0 : r = 0
      · have hw2 := HRE.out.1 hr0
        have HWN := Lib.hid (HWH.out hw2)
        subst hr0
        clear hw2 HRE HWH HROW HRT
        go_wp2_with (at_builtin; refine wpList_append_rows _ rfl (.tmp 34) (.tmp 35) 23 rfl w.heap.size 31 i0 _ 24 Tryz.underlying23 hi0 hz0 hz1 hz2 rfl _ n _ rfl HRO.out W2.heap.size A3 m c3 (ys.map El.val) rfl HYO.out (fun u hu => by obtain ⟨y, _, rfl⟩ := List.mem_map.1 hu; rfl) (by unfold maxLen; omega) (by omega) (by omega) ?_; intro v4 w4 hown4 hg4 hat4; obtain ⟨X4, hN4⟩ := next_row HR.out HB3.out HW2 HYP.out HM.out hown4 hg4 hat4 HYL.out HTF.out; have HN4 := Lib.hid hN4; clear hown4 hg4 hat4 hN4)
        go_roundw
        case rel => exact ⟨i + 1, n + m, by go_num, by omega, by omega, Lib.hid ⟨X4, _, HN4.out⟩, HWN⟩
        case measure => simp [intOf]; omega
      · have hwn : a ≠ d.length := fun h => hr0 (HRE.out.2 h)
        obtain ⟨hSA, hFW⟩ := HROW.out hwn
        have HSA := Lib.hid hSA
        have HFW := Lib.hid hFW
        have HRC := Lib.hid (HRT.out hwn)
        have hrb : ((r : Int) != 0) = true := by simpa using hr0
        have hdrp := (HN.out.drop (n := i) (c := c) (by rw [List.length_range', ← HE.out]; exact hc))
        rw [range_drop hid, ← HQ.out, ← HE.out] at hdrp
        have hk1 := fun w => cutI_from w (some ⟨b0, o0, none⟩) N c i (by omega)
        generalize (if c = i then some (⟨b0, o0, none⟩ : Addr) else (some (⟨b0, o0, none⟩ : Addr)).map (·.add i)) = A5 at hdrp hk1
        obtain ⟨R, hRe⟩ : ∃ R, R = N - i := ⟨_, rfl⟩
        simp only [← hRe] at hk1
        have HDR := Lib.hid hdrp
        have HTH : Hid (There (List.range' (q + 1) (N - (i + 1))) st.fs ∧ q ∉ List.range' (q + 1) (N - (i + 1)) ∧ R = (List.range' (q + 1) (N - (i + 1))).length + 1 ∧ (List.range' (q + 1) (N - (i + 1))).length ≤ 1000) := Lib.hid (by
          refine ⟨⟨fun k hk => ?_, fun k hk => ?_, List.nodup_range'⟩, fun hm => ?_, ?_, ?_⟩
          · rw [List.mem_range'_1, HQ.out] at hk
            have := HA.out.ok (k - first) (by rw [← HE.out]; omega)
            rwa [show first + (k - first) = k by omega] at this
          · rw [List.mem_range'_1, HQ.out] at hk
            obtain ⟨f2, hf2, _⟩ := con_some (HA.out.con (k - first) (by rw [← HE.out]; omega))
            rw [show first + (k - first) = k by omega] at hf2
            rw [hf2]; rfl
          · rw [List.mem_range'_1] at hm; omega
          · rw [List.length_range']; omega
          · rw [List.length_range']; omega)
        have hcR : R ≤ c - i := by omega
        have hfa : a ≤ f.bs.length := by rw [HFB.out, HL2.out]; exact hle
        clear hwn hr0 HRE HWH HROW HRT hSA hFW hdrp hRe
        go_wp2_with (at_builtin; refine wpList_append_rows _ rfl (.tmp 34) (.tmp 35) 23 rfl w.heap.size 31 i0 _ 24 Tryz.underlying23 hi0 hz0 hz1 hz2 rfl _ n _ rfl HRO.out W2.heap.size A3 m c3 (ys.map El.val) rfl HYO.out (fun u hu => by obtain ⟨y, _, rfl⟩ := List.mem_map.1 hu; rfl) (by unfold maxLen; omega) (by omega) (by omega) ?_; intro v4 w4 hown4 hg4 hat4; obtain ⟨X4, hN4⟩ := next_row HR.out HB3.out HW2 HYP.out HM.out hown4 hg4 hat4 HYL.out HTF.out; have HN4 := Lib.hid hN4; clear hown4 hg4 hat4 hN4)
        have HMD := Lib.hid (mend_any g X4 st A5 q R _ (c - i) a f w4 HN4.out.sto (HT.out.on HN4.out.keep HN4.out.more) HU.out ((HDR.out.keep HN4.out.keep).more HN4.out.more) HTH.out.2.2.1 hcR hok HF.out hfa HTH.out.1 HTH.out.2.1 HTH.out.2.2.2)
        (with_reducible refine HMD.out.mono ?_)
        rintro e W5 ⟨rfl, hS5, hK5⟩
        have HS5 := Lib.hid hS5
        have HK5 := Lib.hid hK5
        clear hS5 hK5 HMD
        go_wp2
        go_ret3
        have hlen : (runC ds).length = i + 1 := by rw [HRC.out, List.length_map, List.length_take]; omega
        refine ⟨v4, _, X4, _, by rw [hlen]; rfl, HN4.out.row.keep HK5.out, by rw [HN4.out.pays, HRC.out], ?_, HSA.out, HFW.out, HN4.out.more, HN4.out.keep.trans (HK5.out.mono HN4.out.more)⟩
        have h := HS5.out
        rw [HE.out] at h
        exact h
    · obtain rfl : i = N := by omega
      have HWA := Lib.hid (row_whole HA.out (fun k hk => HWK.out k hk (by rw [HE.out]; exact hk)))
      have HRW := Lib.hid (runC_whole (fun k hk => HWK.out k hk (by rw [HE.out]; exact hk)))
      go_wp2
      go_ret3
      have hlen : (runC ds).length = i := by rw [HRW.out, List.length_map, HE.out]
      refine ⟨u4, xs, X', st.fs, by rw [hlen]; rfl, HR.out.row, ?_, HR.out.sto, HWA.out, Fewer.refl _, HR.out.more, HR.out.keep⟩
      rw [HR.out.pays, HRW.out, List.take_of_length_le (by rw [HE.out]; exact Nat.le_refl _)]
end

section
open Go.RowKit

/-- a log -/
structure Lg (w : World) (gl g : Nat) (X : Nat → Prop) (st : St) (size last : Nat) : Prop where
  box : Box w gl 64 #[.pointer (some ⟨g, 0, none⟩), .int .i64 (size : Int), .int .i64 (last : Int)]
  mine : X gl
  sto : Sto w g X st
/-- what an opening answers -/
def OpenedIs (w : World) (g : Nat) (X : Nat → Prop) (st : St) (size first : Nat) (ds : List (List UInt8)) (e : Ending) (w' : World) : Prop :=
  ∃ (gl : Nat) (v : Value) (xs : List El) (X' : Nat → Prop) (fs' : List Fl), e = .returned (.tuple #[.pointer (some ⟨gl, 0, none⟩), v, .int .i64 0]) ∧ w.heap.size ≤ gl ∧ Lg w' gl g X' (st.with fs') size (first + ((runC ds).length - 1)) ∧
    Row w' w.heap.size X' v xs ∧ xs.map El.l = (runC ds).flatten ∧ SegAre fs' first ((runC ds).map catL) ∧ Fewer st.fs fs' ∧ (∀ i, X i → X' i) ∧ Keep X w w'

set_option maxRecDepth 100000 in
set_option maxHeartbeats 2000000 in
theorem openFrom_any (g : Nat) (X : Nat → Prop) (st : St) (size first : Nat) (ds : List (List UInt8)) (w : World) (hS : Sto w g X st) (hT : Tab w X) (hU : Up st) (hR : Run st.fs first ds) (h1 : 1 ≤ first) (h2 : first ≤ 1073741824) :
    Calls Tryz.prog 30 #[.pointer (some ⟨g, 0, none⟩), .int .i64 (size : Int), .int .i64 (first : Int)] w (OpenedIs w g X st size first ds) := by
  have HC := Lib.hid (choose_any g X st first ds w hS hT hU hR h1 h2)
  have HT := Lib.hid hT
  have HU := Lib.hid hU
  clear hS hT hU hR
  go_enter Tryz.func30, Tryz.ntmps30
  go_wp2_with fail
  refine HC.out.mono ?_
  rintro e W1 ⟨A, c, fs1, X1, rfl, hc, h256, hN, hS1, hSA, hFW, hXX, hK⟩
  obtain ⟨N, hNe⟩ : ∃ N, N = ds.length := ⟨_, rfl⟩
  have HRR := Lib.hid (readRow_any g X1 (st.with fs1) A first c N ds W1 hS1 (HT.out.on hK hXX) (HU.out.with fs1) hN hNe (by rw [hNe]; exact hc) (by rw [hNe]; exact h256) hSA)
  rw [← hNe]
  have HFW := Lib.hid hFW
  have HXX := Lib.hid hXX
  have HK := Lib.hid hK
  clear HC hc h256 hN hS1 hSA hFW hXX hK hNe
  go_wp2_with fail
  refine HRR.out.mono ?_
  rintro e W2 ⟨v, xs, X2, fs2, rfl, hRow, hEl, hS2, hSA2, hFW2, hXX2, hK2⟩
  have HRow := Lib.hid hRow
  have HEl := Lib.hid hEl
  have HS2 := Lib.hid hS2
  have HSA2 := Lib.hid hSA2
  have HFW2 := Lib.hid hFW2
  have HXX2 := Lib.hid hXX2
  have HK2 := Lib.hid hK2
  have hlen : (runC ds).length ≤ 1073741824 := by
    rcases Nat.eq_zero_or_pos (runC ds).length with h0 | h0
    · omega
    · have h := hSA2.ok ((runC ds).length - 1) (by rw [List.length_map]; omega)
      have := h.2
      omega
  have key : ∀ last : Nat, last = first + ((runC ds).length - 1) → OpenedIs w g X st size first ds (.returned (.tuple #[.pointer (some ⟨W2.heap.size, 0, none⟩), v, .int .i64 0])) (W2.alloc (.cells #[.pointer (some ⟨g, 0, none⟩), .int .i64 (size : Int), .int .i64 (last : Int)] 64)) := by
    rintro last rfl
    have hb := (Below.refl W2.heap.size W2).alloc (Nat.le_refl _) (.cells #[.pointer (some ⟨g, 0, none⟩), .int .i64 (size : Int), .int .i64 ((first + ((runC ds).length - 1) : Nat) : Int)] 64)
    have hle := HK.out.size
    have hle2 := HK2.out.size
    refine ⟨W2.heap.size, v, xs, _, fs2, rfl, by omega, ⟨Box.new _ _ _, ?_, HS2.out.wide hb⟩, ⟨own_base (HRow.out.below hb).own hle, fun x hx => own_base ((HRow.out.below hb).pays x hx) hle, fun i hi => .inl (HRow.out.vX i hi), fun x hx i hi => .inl (HRow.out.pX x hx i hi)⟩, HEl.out, HSA2.out, HFW.out.trans HFW2.out, fun i hi => .inl (HXX2.out i (HXX.out i hi)), ?_⟩
    · exact .inr ⟨Nat.le_refl _, by simp⟩
    · exact (HK.out.trans (HK2.out.mono HXX.out)).trans (Keep.of_below hb)
  have HKEY := Lib.hid key
  obtain ⟨K, hK⟩ : ∃ K, K = (runC ds).length := ⟨_, rfl⟩
  rw [← hK] at hlen ⊢
  have HKE := Lib.hid hK
  clear HRR hRow hEl hS2 hSA2 hFW2 hXX2 hK2 key hK
  by_cases h0 : K = 0
  · subst h0
    go_wp2
    go_ret3
    have h := HKEY.out first (by rw [← HKE.out]; rfl)
    exact h
  · obtain ⟨k, rfl⟩ : ∃ k, K = k + 1 := ⟨K - 1, by omega⟩
    have hk1 : ((k + 1 : Nat) : Int) - 1 = (k : Int) := by omega
    have hmx : max (k : Int) 0 = (k : Int) := by omega
    go_wp2
    go_ret3
    have h := HKEY.out (first + k) (by rw [← HKE.out]; rfl)
    simpa using h

/-- the least number -/
def Least (fs : List Fl) (first : Nat) : Prop :=
  (okN first ∧ (lookBy Fl.name (segL first) fs).isSome = true ∧ ∀ n, okN n → (lookBy Fl.name (segL n) fs).isSome = true → first ≤ n) ∨ (first = 1 ∧ ∀ n, okN n → lookBy Fl.name (segL n) fs = none)
theorem least_ok {fs : List Fl} {first : Nat} (h : Least fs first) : okN first := by
  rcases h with ⟨h, _⟩ | ⟨h, _⟩
  · exact h
  · subst h; exact ⟨by omega, by omega⟩
theorem least_of {fs : List Fl} (hr : Rise Fl.name fs) {ns : List Nat} (hs : SegsIs fs ns) {first : Nat} (h : Least fs first) : (ns = [] ∧ first = 1) ∨ ∃ t, ns = first :: t := by
  rcases h with ⟨h1, h2, h3⟩ | ⟨h1, h2⟩
  · have hm := (hs.mem hr).2 ⟨h1, h2⟩
    cases ns with
    | nil => simp at hm
    | cons a t =>
      obtain ⟨p1, _⟩ := List.pairwise_cons.1 hs.rise
      obtain ⟨a1, a2⟩ := (hs.mem hr (n := a)).1 (by simp)
      have := h3 a a1 a2
      rcases List.mem_cons.1 hm with e | hm
      · exact .inr ⟨t, by rw [e]⟩
      · have := p1 first hm; omega
  · left
    refine ⟨?_, h1⟩
    cases ns with
    | nil => rfl
    | cons a t =>
      obtain ⟨a1, a2⟩ := (hs.mem hr (n := a)).1 (by simp)
      rw [h2 a a1] at a2
      cases a2

set_option maxRecDepth 100000 in
set_option maxHeartbeats 2000000 in
theorem open_any (g : Nat) (X : Nat → Prop) (st : St) (size first : Nat) (ds : List (List UInt8)) (w : World) (hS : Sto w g X st) (hT : Tab w X) (hU : Up st) (hL : Least st.fs first) (hR : Run st.fs first ds) (h1 : 1 ≤ size) (h2 : size ≤ 1048576) :
    Calls Tryz.prog 10 #[.pointer (some ⟨g, 0, none⟩), .int .i64 (size : Int)] w (OpenedIs w g X st size first ds) := by
  have HRF := Lib.hid (refused_ok g X st size w hS hU.down h1 h2)
  have HSG := Lib.hid (segments_any g X st w hS hU.down)
  have hfo := least_ok hL
  have HO : Hid (∀ W1, Below w.heap.size w W1 → Calls Tryz.prog 30 #[.pointer (some ⟨g, 0, none⟩), .int .i64 (size : Int), .int .i64 (first : Int)] W1 (OpenedIs w g X st size first ds)) := Lib.hid fun W1 hb => by
    refine (openFrom_any g X st size first ds W1 (hS.below hb) (hT.below hb) hU hR hfo.1 hfo.2).mono ?_
    rintro e w' ⟨gl, v, xs, X', fs', e1, e2, e3, e4, e5, e6, e7, e8, e9⟩
    have := hb.size
    exact ⟨gl, v, xs, X', fs', e1, by omega, e3, ⟨own_base e4.own this, fun x hx => own_base (e4.pays x hx) this, e4.vX, e4.pX⟩, e5, e6, e7, e8, (Keep.of_below hb).trans e9⟩
  have HLE := Lib.hid (fun ns (hs : SegsIs st.fs ns) => least_of hS.ok.rise hs hL)
  clear hS hT hU hL hR hfo
  go_enter Tryz.func10, Tryz.ntmps10
  go_wp2_with fail
  (with_reducible refine HRF.out.mono ?_)
  rintro e W0 ⟨rfl, rfl⟩
  go_wp2_with fail
  refine HSG.out.mono ?_
  rintro e W1 ⟨A, c, ns, rfl, hc, hsg, hN, b1⟩
  have HOP := Lib.hid (HO.out W1 b1)
  rcases HLE.out ns hsg with ⟨rfl, hf1⟩ | ⟨t, rfl⟩
  · rw [hf1] at HOP
    have HF1 := Lib.hid hf1
    clear HSG hsg hN HO HLE hf1
    go_wp2_with fail
    refine HOP.out.mono ?_
    rintro e W2 ⟨gl, v, xs, X', fs', rfl, hrest⟩
    have HRE := Lib.hid hrest
    clear hrest HOP
    go_wp2
    go_ret3
    rw [HF1.out]
    exact ⟨gl, v, xs, X', fs', rfl, HRE.out⟩
  · obtain ⟨b0, o0, rfl, _, hb0, hc0⟩ := hN.get (k := 0) (by simp)
    rw [List.getElem_cons_zero, Nat.add_zero] at hc0
    obtain ⟨L, hL⟩ : ∃ L, L = (first :: t).length := ⟨_, rfl⟩
    have hL0 : 0 < L := by rw [hL]; simp
    rw [← hL]
    clear HSG hsg hN HO HLE hL
    go_wp2_with fail
    refine HOP.out.mono ?_
    rintro e W2 ⟨gl, v, xs, X', fs', rfl, hrest⟩
    have HRE := Lib.hid hrest
    clear hrest HOP
    go_wp2
    go_ret3
    exact ⟨gl, v, xs, X', fs', rfl, HRE.out⟩

set_option maxRecDepth 100000 in
set_option maxHeartbeats 2000000 in
theorem openAt_any (g : Nat) (X : Nat → Prop) (st : St) (size first : Nat) (ds : List (List UInt8)) (w : World) (hS : Sto w g X st) (hT : Tab w X) (hU : Up st) (hR : Run st.fs first ds) (hf : okN first) (h1 : 1 ≤ size) (h2 : size ≤ 1048576) :
    Calls Tryz.prog 23 #[.pointer (some ⟨g, 0, none⟩), .int .i64 (size : Int), .int .i64 (first : Int)] w (OpenedIs w g X st size first ds) := by
  have HRF := Lib.hid (refused_ok g X st size w hS hU.down h1 h2)
  have HO := Lib.hid (openFrom_any g X st size first ds w hS hT hU hR hf.1 hf.2)
  have hf1 : ¬ (first : Int) < 1 := by have := hf.1; omega
  have hf2 : ¬ (1073741824 : Int) < (first : Int) := by have := hf.2; omega
  clear hS hT hU hR hf
  go_enter Tryz.func23, Tryz.ntmps23
  go_wp2_with fail
  (with_reducible refine HRF.out.mono ?_)
  rintro e W0 ⟨rfl, rfl⟩
  go_wp2_with fail
  refine HO.out.mono ?_
  rintro e W2 ⟨gl, v, xs, X', fs', rfl, hrest⟩
  have HRE := Lib.hid hrest
  clear hrest HO
  go_wp2
  go_ret3
  exact ⟨gl, v, xs, X', fs', rfl, HRE.out⟩
end
end Go.Proofs.YtohnhboeipckjaaGreatDoor
