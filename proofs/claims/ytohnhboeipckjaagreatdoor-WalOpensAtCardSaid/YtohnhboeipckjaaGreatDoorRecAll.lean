/-
  What the program's restError, records and All answer: the payloads of the whole part, how many bytes it has, and what is told of the rest.
  Conditions: the bytes lie in memory that was there; they are at most 2^40.
-/
import Derived.Test.YtohnhboeipckjaaGreatDoorRecIter
import Derived.Deep.RegionHeld3
import Derived.Maps.AppendAt
namespace Go.Proofs.YtohnhboeipckjaaGreatDoor
open Go.RowKit Go.Shelf
attribute [local go_sem] Oper.semAt_some

set_option maxHeartbeats 1000000 in
theorem rest_any (A : Option Addr) (b : List UInt8) (c k : Nat) (w : World) (hb : Byt w w.heap.size A b) (hk : k ≤ b.length) (hc : b.length ≤ c) (hl : b.length ≤ 1099511627776) :
    Calls Tryz.prog 86 #[.slice A b.length c, .int .i64 (k : Int)] w fun e w' => e = .returned (.int .i64 (restE b k : Nat)) ∧ Below w.heap.size w w' := by
  by_cases he : k = b.length
  · have hr : restE b k = 0 := by unfold restE; rw [if_pos he]
    have hd : ((k : Int) == (b.length : Int)) = true := by rw [he]; simp
    rw [hr]
    clear hr he
    go_enter Tryz.func86, Tryz.ntmps86
    go_wp2
    go_ret
    exact ⟨rfl, Below.refl _ _⟩
  · have hd : ((k : Int) == (b.length : Int)) = false := by
      cases h : ((k : Int) == (b.length : Int)) with
      | false => rfl
      | true => exact absurd (by have := eq_of_beq h; omega) he
    have HG := Lib.hid (get_any A b c k w hb hk hc hl)
    by_cases h2 : getE (b.drop k) = 2
    · have hr : restE b k = 2 := by unfold restE; rw [if_neg he, if_pos h2]
      rw [hr]
      unfold GotIs at HG
      rw [h2] at HG
      clear hr he h2
      go_enter Tryz.func86, Tryz.ntmps86
      go_wp2_with (go_at_call 110; refine HG.out.mono ?_; rintro e W1 ⟨v, rfl, hown, b1⟩; clear hown)
      go_ret
      exact ⟨rfl, b1⟩
    · have hr : restE b k = 18 := by unfold restE; rw [if_neg he, if_neg h2]
      rw [hr]
      have hd2 : ((getE (b.drop k) : Int) == 2) = false := by
        cases h : ((getE (b.drop k) : Int) == 2) with
        | false => rfl
        | true => exact absurd (by have := eq_of_beq h; omega) h2
      clear hr he h2
      unfold GotIs at HG
      generalize getE (b.drop k) = e0 at *
      go_enter Tryz.func86, Tryz.ntmps86
      go_wp2_with (go_at_call 110; refine HG.out.mono ?_; rintro e W1 ⟨v, rfl, hown, b1⟩; clear hown)
      go_ret
      exact ⟨rfl, b1⟩

theorem records_in (n : Nat) (A : Option Addr) (m c : Nat) (w : World) :
    CallsIn Fence.wide n Tryz.prog 85 #[.slice A m c] w fun e w' => e = .returned (.func (.func 109) #[] #[.pointer (some ⟨w.heap.size, 0, none⟩)]) ∧ w' = w.alloc (.cells #[.slice A m c] 31) := by
  refine callsIn_of_wp Tryz.func85 rfl trivial ?_ rfl
  simp only [Tryz.ntmps85, List.size_toArray, List.length_cons, List.length_nil, Nat.reduceAdd, Nat.reduceSub, Array.replicate_succ, Array.replicate_zero, List.push_toArray, List.append_toArray, List.nil_append, List.cons_append]
  gi_wp2
  go_ret
  exact ⟨rfl, rfl⟩

theorem row_own {base : Nat} {e : TypeId} {size : Nat} {v : Value} {k : Nat} {xs : List Value} {X Y : World} {row : Option Nat} (hr : X.ownsRow base e size v k xs) (hg : X.grownBy Y row) (hrow : ∀ r, row = some r → ∃ o : Obj, X.heap[r]? = some o ∧ o.isCells = false) : Y.ownsRow base e size v k xs := by
  refine hr.kept hg ?_
  rcases hr.2 with ⟨rfl, _⟩ | ⟨g, cap, cur, rfl, _, hgb, _⟩
  · exact .inl rfl
  · refine .inr fun e' => ?_
    obtain ⟨o, ho, hc⟩ := hrow g (by simpa [Value.ownBlock] using e'.symm)
    rw [hgb] at ho; cases ho; cases hc
theorem row_ne {W : World} {B B' : Nat} {e e' : TypeId} {s s' : Nat} {v v' : Value} {k k' : Nat} {xs xs' : List Value} (h : W.ownsRow B e s v k xs) (h' : W.ownsRow B' e' s' v' k' xs') (hne : e ≠ e') : v.ownBlock = none ∨ v.ownBlock ≠ v'.ownBlock := by
  rcases h.2 with ⟨rfl, _⟩ | ⟨g, cap, cur, rfl, _, hg, _⟩
  · exact .inl rfl
  · refine .inr fun e0 => ?_
    rcases h'.2 with ⟨rfl, _⟩ | ⟨g', cap', cur', rfl, _, hg', _⟩
    · simp [Value.ownBlock] at e0
    · obtain rfl : g = g' := by simpa [Value.ownBlock] using e0
      rw [hg] at hg'
      simp at hg'
      exact hne hg'.2
theorem info22 : (Tryz.prog.info? 31).map (fun i => (i.zero, i.size, i.bytes)) = some (some (.slice none 0 0), 1, 24) := by kernel_rfl
theorem keepB_t {B Bb : Nat} {X Y Z : World} (h : KeepB B Bb X Y) (k : KeepB B Bb Y Z) : KeepB B Bb X Z := ⟨h.1.trans k.1, fun o ho => k.2 o (h.2 o ho)⟩
theorem keepB_b {B Bb s : Nat} {W : World} {l : Nat} {o o' : Obj} (hB : B ≤ s) (hBb : Bb < s) (hl : s ≤ l) (h : W.heap[l]? = some o) : KeepB B Bb W (W.putObj l o') :=
  ⟨(Below.refl B W).grown (grownBy_putObj' W l o') (by have := (Array.getElem?_eq_some_iff.1 h).1; omega) (fun k e => by cases e; omega), fun p hp => (World.putObj_heap_other (by omega)).trans hp⟩

/-- what All answers -/
def AllIs (w : World) (b : List UInt8) (e : Ending) (w' : World) : Prop :=
  ∃ (xs : List El) (v : Value), e = .returned (.tuple #[v, .int .i64 (finOf xs : Nat), .int .i64 (restE b (finOf xs) : Nat)]) ∧ Whole b (xs.map El.l) (finOf xs) ∧
    w'.ownsRow w.heap.size 31 1 v xs.length (xs.map El.val) ∧ (∀ x ∈ xs, Pay w' w.heap.size x) ∧ Below w.heap.size w w'
/-- where the loop of All stands -/
structure AllAt (w : World) (pre : List El) (W : World) : Prop where
  row : ∃ v, Boxed W w.heap.size 23 v ∧ W.ownsRow (w.heap.size + 3) 31 1 v pre.length (pre.map El.val)
  whole : Boxed W (w.heap.size + 1) 3 (.int .i64 (finOf pre : Nat))
  pays : ∀ x ∈ pre, Pay W w.heap.size x
  bel : Below w.heap.size w W
  size : w.heap.size + 3 ≤ W.heap.size
theorem AllAt.own (w : World) : OwnFrom (w.heap.size + 3) (AllAt w) := by
  intro s X Y row h hg hr
  have hr' : ∀ r, row = some r → ∃ o : Obj, X.heap[r]? = some o ∧ o.isCells = false := fun r e => (hr r e).2
  have hbox : ∀ {B t v}, Boxed X B t v → Boxed Y B t v := fun {B t v} hb => hb.kept hg fun e' => by
    obtain ⟨o, ho, hc⟩ := hr' B e'.symm
    rw [show X.heap[B]? = _ from hb] at ho; cases ho; cases hc
  obtain ⟨v, h1, h2⟩ := h.row
  exact ⟨⟨v, hbox h1, row_own h2 hg hr'⟩, hbox h.whole, fun x hx => row_own (h.pays x hx) hg hr', h.bel.grown hg h.bel.size (fun k e => by have := (hr k e).1; omega), Nat.le_trans h.size hg.size⟩

/-- behind the loop -/
structure AllDone (w : World) (xs : List El) (v : Value) (D : Nat) (W : World) : Prop where
  box : Boxed W w.heap.size 23 v
  row : W.ownsRow (w.heap.size + 3) 31 1 v xs.length (xs.map El.val)
  whole : Boxed W (w.heap.size + 1) 3 (.int .i64 (finOf xs : Nat))
  pays : ∀ x ∈ xs, Pay W w.heap.size x
  bel : Below w.heap.size w W
  def' : W.heap[D]? = some (.deferred (some []))
theorem AllDone.grown {w : World} {xs : List El} {v : Value} {D : Nat} {X Y : World} (h : AllDone w xs v D X) (hg : X.grownBy Y none) : AllDone w xs v D Y :=
  ⟨h.box.kept hg (by simp), row_own h.row hg (fun r e => by cases e), h.whole.kept hg (by simp), fun x hx => row_own (h.pays x hx) hg (fun r e => by cases e), h.bel.grown hg h.bel.size (fun k e => by cases e), (hg.block D (Array.getElem?_eq_some_iff.1 h.def').1 (by simp)).trans h.def'⟩
theorem AllDone.below {w : World} {xs : List El} {v : Value} {D : Nat} {X Y : World} (h : AllDone w xs v D X) (hg : Below X.heap.size X Y) : AllDone w xs v D Y := h.grown (below_grown hg)
theorem AllDone.drew {w : World} {xs : List El} {v : Value} {D : Nat} {X : World} (h : AllDone w xs v D X) : AllDone w xs v D X.drew := h.below ((Below.refl _ X).drew)
theorem AllDone.setL {w : World} {xs : List El} {v : Value} {D : Nat} {X : World} (h : AllDone w xs v D X) (hD : w.heap.size + 3 ≤ D) : AllDone w xs v D (X.setCell ⟨w.heap.size, 0, none⟩ v) :=
  ⟨h.box.set v, h.row.kept (grownBy_setCell' _ _ _) (.inr (h.box.not_row (by decide) h.row).symm), h.whole.other (by omega) _, fun x hx => (h.pays x hx).kept (grownBy_setCell' _ _ _) (.inr (h.box.not_row (by decide) (h.pays x hx)).symm),
    h.bel.setCell (p := ⟨w.heap.size, 0, none⟩) (Nat.le_refl _) _, by rw [Below.heap_setCell _ _ _ _ (by simp; omega)]; exact h.def'⟩
theorem AllDone.setW {w : World} {xs : List El} {v : Value} {D : Nat} {X : World} (h : AllDone w xs v D X) (hD : w.heap.size + 3 ≤ D) : AllDone w xs v D (X.setCell ⟨w.heap.size + 1, 0, none⟩ (.int .i64 (finOf xs : Nat))) :=
  ⟨h.box.other (by omega) _, h.row.kept (grownBy_setCell' _ _ _) (.inr (h.whole.not_row (by decide) h.row).symm), h.whole.set _, fun x hx => (h.pays x hx).kept (grownBy_setCell' _ _ _) (.inr (h.whole.not_row (by decide) (h.pays x hx)).symm),
    h.bel.setCell (p := ⟨w.heap.size + 1, 0, none⟩) (by simp) _, by rw [Below.heap_setCell _ _ _ _ (by simp; omega)]; exact h.def'⟩
theorem AllDone.leave {w : World} {xs : List El} {v : Value} {D : Nat} {X : World} (h : AllDone w xs v D X) (hD : w.heap.size + 3 ≤ D) (o : Obj) :
    Boxed (X.putObj D o) w.heap.size 23 v ∧ Boxed (X.putObj D o) (w.heap.size + 1) 3 (.int .i64 (finOf xs : Nat)) ∧ (X.putObj D o).ownsRow w.heap.size 31 1 v xs.length (xs.map El.val) ∧ (∀ x ∈ xs, Pay (X.putObj D o) w.heap.size x) ∧ Below w.heap.size w (X.putObj D o) := by
  have hg := grownBy_putObj' X D o
  have hr : ∀ r, some D = some r → ∃ o : Obj, X.heap[r]? = some o ∧ o.isCells = false := fun r e => by cases e; exact ⟨_, h.def', rfl⟩
  exact ⟨h.box.kept hg (by simp; omega), h.whole.kept hg (by simp; omega), own_base' (row_own h.row hg hr) (by omega), fun x hx => row_own (h.pays x hx) hg hr, h.bel.grown hg h.bel.size (fun k e => by cases e; omega)⟩
theorem res_all (tmps : Array Value) (W : World) (g1 g2 : Nat) (v1 : Value) (n2 : Int) (hp : tmps.getD 2 undef = .pointer (some ⟨g1, 0, none⟩)) (hq : tmps.getD 3 undef = .pointer (some ⟨g2, 0, none⟩)) (h1 : W.cell? ⟨g1, 0, none⟩ = some v1) (h2 : W.cell? ⟨g2, 0, none⟩ = some (.int .i64 n2)) :
    (results Tryz.f64 tmps).run Tryz.prog W = .ok (.tuple #[v1, .int .i64 n2, tmps.getD 4 undef]) W := by
  have h : Tryz.f64.results = #[.cell 2 23, .cell 3 3, .tmp 4] := rfl
  simp only [results, h]
  simp only [Array.getD_eq_getD_getElem?] at hp hq
  simp [Sem.run_bind, Result.andThen, hp, hq, h1, h2, asAddr, go_sem]

set_option maxRecDepth 100000 in
set_option maxHeartbeats 4000000 in
theorem all_any (A : Option Addr) (b : List UInt8) (c : Nat) (w : World) (hb : Byt w w.heap.size A b) (hc : b.length ≤ c) (hl : b.length ≤ 1099511627776) :
    Calls Tryz.prog 64 #[.slice A b.length c] w (AllIs w b) := by
  obtain ⟨i0, hi, hz0, hz1, hz2⟩ := info_parts info22
  refine (callsIn_wide (n := 5)).1 ?_
  refine callsIn_of_wp_marks Tryz.func64 rfl trivial ?_ rfl
  simp only [Tryz.ntmps64, List.size_toArray, List.length_cons, List.length_nil, Nat.reduceAdd, Nat.reduceSub, Array.replicate_succ, Array.replicate_zero, List.push_toArray, List.append_toArray, List.nil_append, List.cons_append]
  gi_wp2_with (refine ⟨trivial, ?_⟩; gi_at_call 85; refine (records_in _ _ _ _ _).mono ?_; rintro e w' ⟨rfl, rfl⟩)
  have hsz : (((w.alloc (.cells #[.slice none 0 0] 23)).alloc (.cells #[.int .i64 0] 3)).alloc (.cells #[.slice A b.length c] 31)).heap.size = w.heap.size + 3 := by simp
  have hb0 : Boxed (((w.alloc (.cells #[.slice none 0 0] 23)).alloc (.cells #[.int .i64 0] 3)).alloc (.cells #[.slice A b.length c] 31)) w.heap.size 23 (.slice none 0 0) := ((Boxed.new w _ _).alloc _).alloc _
  have hb1 : Boxed (((w.alloc (.cells #[.slice none 0 0] 23)).alloc (.cells #[.int .i64 0] 3)).alloc (.cells #[.slice A b.length c] 31)) (w.heap.size + 1) 3 (.int .i64 0) := by
    have h := (Boxed.new (w.alloc (.cells #[.slice none 0 0] 23)) 3 (.int .i64 0)).alloc (.cells #[.slice A b.length c] 31)
    rw [World.size_alloc] at h
    exact h
  have hb2 : Boxed (((w.alloc (.cells #[.slice none 0 0] 23)).alloc (.cells #[.int .i64 0] 3)).alloc (.cells #[.slice A b.length c] 31)) (w.heap.size + 1 + 1) 31 (.slice A b.length c) := by
    have h := Boxed.new ((w.alloc (.cells #[.slice none 0 0] 23)).alloc (.cells #[.int .i64 0] 3)) 31 (.slice A b.length c)
    rw [World.size_alloc, World.size_alloc] at h
    exact h
  have hB0 : Below w.heap.size w (((w.alloc (.cells #[.slice none 0 0] 23)).alloc (.cells #[.int .i64 0] 3)).alloc (.cells #[.slice A b.length c] 31)) := (((Below.refl _ w).alloc (Nat.le_refl _) _).alloc (by simp) _).alloc (by simp; omega) _
  generalize ((w.alloc (.cells #[.slice none 0 0] 23)).alloc (.cells #[.int .i64 0] 3)).alloc (.cells #[.slice A b.length c] 31) = W0 at *
  have hat : AllAt w [] W0 := ⟨⟨_, hb0, World.ownsRow_nil _ _ _ _⟩, hb1, (fun x hx => by simp at hx), hB0, by omega⟩
  refine range_hands rfl (by omega) (gf := 109) (lb := #[.pointer (some ⟨w.heap.size + 1 + 1, 0, none⟩)]) rfl trivial (enters_of Tryz.func109 (by kernel_rfl) rfl) (encs := El.vals) (Kp := KeepB w.heap.size (w.heap.size + 1 + 1))
    (R := Gives b w.heap.size) (S := fun xs => Whole b (xs.map El.l) (finOf xs))
    (fun l J W hW hJ hY h0 => iter_in 4 (by omega) l (w.heap.size + 1 + 1) w.heap.size A b c J W hJ hY ((hW.block _ (by omega)).trans hb2) ((hb.below hB0).below (hW.mono hB0.size)) (Nat.le_trans hB0.size hW.size) hc hl h0)
    keepB_t (fun W l o o' h1 h2 _ => keepB_b (s := W0.heap.size) hB0.size (by omega) h1 h2) (fun _ => rfl) (AllAt w) (by rw [hsz]; exact AllAt.own w) ?ownR hat
    (fun x => { tmps := #[.slice A b.length c, undef, .pointer (some ⟨w.heap.size, 0, none⟩), .pointer (some ⟨w.heap.size + 1, 0, none⟩), .int .i64 0, .int .i64 (x.fin : Int), .slice x.A x.l.length x.c, .slice A b.length c,
      .func (.func 109) #[] #[.pointer (some ⟨w.heap.size + 1 + 1, 0, none⟩)], .int .i64 (x.fin : Int), .slice x.A x.l.length x.c, undef, undef, undef, undef, undef, undef, undef, undef, undef, undef], defers := [] }) ?assign ?body ?done
  case ownR =>
    rintro ⟨pre, x⟩ X Y row ⟨h1, h2⟩ hg hr
    exact ⟨h1, row_own h2 hg fun r e => (hr r e).2⟩
  case assign =>
    intro l x W K hK
    unfold El.vals
    gi_wp2
    exact hK
  case body =>
    rintro l pre x W hA ⟨hrd, hpx⟩
    obtain ⟨v, hv, hrow⟩ := hA.row
    have hw := hA.whole
    have hB := hA.bel
    have hs3 := hA.size
    have hcell := hv.cell
    have hcnt := hrd.count
    have hle := hrd.le
    simp only [List.map_append, List.map_cons, List.map_nil, List.length_append, List.length_map, List.length_cons, List.length_nil] at hcnt
    have hps := hA.pays
    have HR := Lib.hid hrow
    clear hA hrd
    gi_wp2_with (gi_at_builtin; refine wpListIn_append_own _ rfl _ _ 23 rfl (w.heap.size + 3) 31 i0 (.slice none 0 0) 1 24 Tryz.underlying23 hi hz0 hz1 hz2 rfl (by decide) _ _ _ rfl (HR.out.alloc _) ⟨W.heap.size, 0, none⟩ 1 1 [.slice x.A x.l.length x.c] rfl rfl (cell_one_new _ _ _) (by simp [Value.oneCell']) (by unfold maxLen; omega) (by omega) (by simp; omega) ?_; intro v' w1 hown' hgrow _; obtain ⟨g', cap', rfl⟩ := ownsRow_succ hown'; obtain ⟨hv1, hv2, hr2, hk2, hbl2⟩ := hv.appended (by decide) (own_base' HR.out (by omega)) hB.size (Nat.le_refl _) (own_base' hown' (by omega)) hgrow; have hc1 := hv1.cell; have hf1 := hv1.frozen; have hw2 := ((hw.alloc _).kept hgrow (hw.not_row (by decide) HR.out)).other (B' := w.heap.size) (by omega) (.slice (some ⟨g', 0, none⟩) (pre.length + 1) cap'); have hwc := hw2.cell; have hwf := hw2.frozen)
    have hgrow' : (W.alloc (.cells #[.slice x.A x.l.length x.c] 31)).grownBy w1 v.ownBlock := hgrow
    have hv2' := hv2.other (B' := w.heap.size + 1) (by omega) (.int .i64 (x.fin : Int))
    have hw3 := hw2.set (.int .i64 (x.fin : Int))
    have hr3 := (hown'.kept (grownBy_setCell' w1 w.heap.size (.slice (some ⟨g', 0, none⟩) (pre.length + 1) cap')) (.inr (hv1.not_row (by decide) hown').symm)).kept (grownBy_setCell' _ (w.heap.size + 1) (.int .i64 (x.fin : Int))) (.inr (hw2.not_row (by decide) hr2).symm)
    have hpay : ∀ y, Pay W w.heap.size y → Pay ((w1.setCell ⟨w.heap.size, 0, none⟩ (.slice (some ⟨g', 0, none⟩) (pre.length + 1) cap')).setCell ⟨w.heap.size + 1, 0, none⟩ (.int .i64 (x.fin : Int))) w.heap.size y := fun y hy => by
      have h1 : w1.ownsRow w.heap.size 5 1 y.val y.l.length (cellsB y.l) := (hy.alloc _).kept hgrow' (row_ne (hy.alloc (.cells #[.slice x.A x.l.length x.c] 31)) (HR.out.alloc _) (by decide))
      have h2 := h1.kept (grownBy_setCell' w1 w.heap.size (.slice (some ⟨g', 0, none⟩) (pre.length + 1) cap')) (.inr (hv1.not_row (by decide) h1).symm)
      exact h2.kept (grownBy_setCell' _ (w.heap.size + 1) (.int .i64 (x.fin : Int))) (.inr (hw2.not_row (by decide) h2).symm)
    have hbel := hbl2.setCell (p := ⟨w.heap.size + 1, 0, none⟩) (by simp) (.int .i64 (x.fin : Int))
    refine ⟨hk2.trans (KeepsOthers.setCell _ _ _), ⟨hbel, fun o ho => ?_⟩, ⟨⟨_, hv2', by simpa [El.val] using hr3⟩, by rw [finOf_snoc]; exact hw3, fun y hy => ?_, hB.trans hbel, ?_⟩⟩
    · have hlt := (Array.getElem?_eq_some_iff.1 ho).1
      rw [Below.heap_setCell _ _ _ _ (by simp), Below.heap_setCell _ _ _ _ (by simp; omega), hgrow'.block _ (by simp; omega) ?_, Below.heap_alloc _ _ _ hlt]
      · exact ho
      · rcases HR.out.2 with ⟨e, _⟩ | ⟨g, cap, cur, e, hg, _⟩
        · simp [e, Value.ownBlock]
        · intro h0
          simp [e, Value.ownBlock] at h0
          omega
    · rcases List.mem_append.1 hy with h | h
      · exact hpay y (hps y h)
      · rw [List.mem_singleton.1 h]; exact hpay x hpx
    · exact Nat.le_trans hs3 hbel.size
  case done =>
    rintro D xs W hD hS hA hK
    obtain ⟨v, hv, hrow⟩ := hA.row
    have hDn : AllDone w xs v D W := ⟨hv, hrow, hA.whole, hA.pays, hA.bel, hK⟩
    rw [hsz] at hD
    clear hA hv hrow hK hat hb0 hb1 hb2
    have l1 : ∀ u, AllDone w xs v D u → u.cell? ⟨w.heap.size, 0, none⟩ = some v := fun u h => h.box.cell
    have l2 : ∀ u, AllDone w xs v D u → u.cell? ⟨w.heap.size + 1, 0, none⟩ = some (.int .i64 (finOf xs : Nat)) := fun u h => h.whole.cell
    have l3 : ∀ u, AllDone w xs v D u → u.frozen? ⟨w.heap.size, 0, none⟩ = false := fun u h => h.box.frozen
    have l4 : ∀ u, AllDone w xs v D u → u.frozen? ⟨w.heap.size + 1, 0, none⟩ = false := fun u h => h.whole.frozen
    have HC : Hid (∀ u, AllDone w xs v D u → Calls Tryz.prog 86 #[.slice A b.length c, .int .i64 (finOf xs : Nat)] u fun e u' => e = .returned (.int .i64 (restE b (finOf xs) : Nat)) ∧ AllDone w xs v D u') := fun u h =>
      (rest_any A b c (finOf xs) u ((hb.below h.bel).more h.bel.size) hS.1.le hc hl).mono fun e u' ⟨he, hB⟩ => ⟨he, h.below hB⟩
    obtain ⟨g, n, cap, rfl⟩ : ∃ g n cap, v = .slice g n cap := by
      obtain ⟨g, cap, e, _⟩ := own_form hDn.row
      exact ⟨g, _, cap, e⟩
    have HS := Lib.hid hS
    clear hS
    gi_wp2
    refine wpIn_wide.2 ?_
    go_region_held3 (fun u => AllDone w xs (.slice g n cap) D u) (first | assumption | exact AllDone.drew (by assumption) | exact AllDone.setL (by assumption) hD | exact AllDone.setW (by assumption) hD)
      (first
        | (go_at_call 86; (with_reducible refine (HC.out _ ?_).mono ?_); (first | assumption | exact AllDone.drew (by assumption)); rintro e w' ⟨rfl, hw'⟩))
    all_goals
      have hF : AllDone w xs (.slice g n cap) D ((w'.setCell ⟨w.heap.size, 0, none⟩ (.slice g n cap)).setCell ⟨w.heap.size + 1, 0, none⟩ (.int .i64 (finOf xs : Nat))) := by assumption
      obtain ⟨q1, q2, q3, q4, q5⟩ := hF.leave hD (.deferred none)
      have hK := hF.def'
      gi_wp2
      refine ⟨by simp, .inl ⟨_, _, rfl, run_takeDeferred hK, ?_⟩⟩
      exact ⟨_, res_all _ _ w.heap.size (w.heap.size + 1) _ _ rfl rfl q1.cell q2.cell, xs, _, rfl, HS.out, q3, q4, q5⟩
end Go.Proofs.YtohnhboeipckjaaGreatDoor
