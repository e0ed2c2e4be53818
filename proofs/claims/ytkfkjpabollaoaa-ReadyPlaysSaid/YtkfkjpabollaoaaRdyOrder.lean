/-
  What Order answers: the handles in the order in which the entries are taken, in memory of its own.
  Conditions: the queue is one.
-/
import Derived.Test.YtkfkjpabollaoaaRdySort
import Derived.OwnWalk
import Derived.Laws.OwnMore
namespace Go.Proofs.Ytkfkjpabollaoaa
open Go.RowKit Go.Maps

/-- the entries, in the order in which they are taken -/
def OrderOf (xs ys : List E) : Prop := ys.Perm xs ∧ ys.Pairwise fun x y => ¬ befE y x
def eth (ys : List E) (k : Nat) : E := ys.getD k ⟨0, 0, 0⟩
theorem eth_get {ys : List E} {k : Nat} (h : k < ys.length) : eth ys k = ys[k] := by simp [eth, h]
def hcell (y : E) : Value := .int .i64 (y.h : Int)
theorem infoI : (Try.prog.info? 3).map (fun i => (i.zero, i.size, i.bytes)) = some (some (.int .i64 0), 1, 8) := by kernel_rfl
theorem sort_none (A : Option Addr) (c : Nat) (fv : Value) (w : World) :
    Calls Try.prog 23 #[.slice A 0 c, fv] w fun e w' => e = .returned (.tuple #[]) ∧ w' = w := by
  have hp : ∀ lim w, Calls Try.prog 27 #[.slice A 0 c, .int .i64 0, .int .i64 0, .int .i64 lim, fv] w fun e w' => e = .returned (.tuple #[]) ∧ w' = w :=
    fun lim w => AnyF.pdqsortCmpFunc_none (P := Try.prog) (ρ := Try.pdqF_ren) { Try.pdqF with } A c lim fv w
  have hl : ∀ w, Calls Try.prog 28 #[.int .u64 0] w fun e w' => e = .returned (.int .i64 (Lib.bitLen 0 : Nat)) ∧ w' = w := fun w => Any.bits_Len (SlLaysF0.n15.bits Try.lenF) 0 w (by omega) (by omega)
  have HP := Lib.hid hp
  have HL := Lib.hid hl
  clear hp hl
  go_enter Try.func23, Try.ntmps23
  go_wp2_with (first
    | (go_at_call 28; refine (HL.out _).mono ?_; rintro e w' ⟨rfl, rfl⟩)
    | (go_at_call 27; refine (HP.out _ _).mono ?_; rintro e w' ⟨rfl, rfl⟩))
  go_end0
  exact ⟨rfl, rfl⟩

/-- k of the handles are told, the others are 0 yet -/
def told (ys : List E) (k : Nat) : List Value := (ys.take k).map hcell ++ List.replicate (ys.length - k) (.int .i64 0)
theorem told_zero (ys : List E) : told ys 0 = List.replicate ys.length (.int .i64 0) := by simp [told]
theorem told_all (ys : List E) : told ys ys.length = ys.map hcell := by simp [told]
theorem told_next {ys : List E} {k : Nat} (hk : k < ys.length) : (told ys k).set k (hcell (eth ys k)) = told ys (k + 1) := by
  rw [eth_get hk]
  unfold told
  rw [List.set_append_right _ _ (by simp; omega)]
  have e1 : k - ((ys.take k).map hcell).length = 0 := by simp; omega
  rw [e1]
  obtain ⟨m, hm⟩ : ∃ m, ys.length - k = m + 1 := ⟨ys.length - k - 1, by omega⟩
  have hm' : ys.length - (k + 1) = m := by omega
  rw [hm, hm', List.replicate_succ, List.set_cons_zero, List.take_succ_eq_append_getElem hk, List.map_append, List.append_assoc]
  rfl
/-- what Order answers -/
def OrderEnd (w : World) (xs : List E) (e : Ending) (w' : World) : Prop :=
  ∃ A c ys, e = .returned (.slice A ys.length c) ∧ OrderOf xs ys ∧ w'.ownsRow w.heap.size 3 1 (.slice A ys.length c) ys.length (ys.map hcell) ∧ Below w.heap.size w w'
theorem below_none {a b : World} (h : a.grownBy b none) : Below a.heap.size a b := ⟨h.os, h.tape, h.output, h.size, fun i hi => h.block i hi (fun e => by cases e)⟩
theorem own_some {w : World} {base : Nat} {e : TypeId} {v : Value} {n : Nat} {xs : List Value} (h : w.ownsRow base e 1 v n xs) (hn : 0 < n) : ∃ g c, v = .slice (some ⟨g, 0, none⟩) n c ∧ base ≤ g := by
  rcases h.2 with ⟨_, h0⟩ | ⟨g, c, cur, hv, hg, _⟩
  · omega
  · exact ⟨g, c, hv, hg⟩
section
variable {w : World} {g : Nat} {X : Nat → Prop} {s : Qs}
theorem order_facts {bm : Nat} {v : Value} {d d' : List En} {ms : List (Nat × Nat)} (h : Held w g X s bm v d ms) (hp : d'.Perm d) (ho : d'.Pairwise fun x y => ¬ bef y x) : OrderOf s.xs (d'.map En.e) :=
  ⟨(hp.map En.e).trans h.pm, by rw [List.pairwise_map]; exact ho⟩
set_option maxHeartbeats 4000000 in
set_option maxRecDepth 100000 in
theorem order_any (h : Que w g X s) : Calls Try.prog 15 #[ptr g] w (OrderEnd w s.xs) := by
  obtain ⟨bm, v, d, ms, hH⟩ := h
  have hsm := hH.small
  obtain ⟨i0, hi0, hz0, hz1, hz2⟩ := info_parts infoI
  have HC := Lib.hid (clone_any hH.raw (by omega))
  obtain ⟨A, c, rfl, hc⟩ := hH.raw.form
  have m3 := hH.raw.v3
  have HH := Lib.hid hH
  clear hH
  unfold ptr
  by_cases hd : d.length = 0
  · obtain rfl : d = [] := List.eq_nil_of_length_eq_zero hd
    have HO := Lib.hid (show OrderOf s.xs [] from ⟨HH.out.pm, List.Pairwise.nil⟩)
    clear hd
    simp only [List.length_nil] at m3 HC
    go_enter Try.func15, Try.ntmps15
    go_wp2_with (first
      | (go_at_call 22; refine HC.out.mono ?_; rintro e w1 ⟨v2, rfl, hown1, hb1⟩; obtain ⟨A2, c2, rfl, hc2⟩ := own_form hown1; clear hown1)
      | (go_at_call 23; refine (sort_none _ _ _ _).mono ?_; rintro e w2 ⟨rfl, rfl⟩)
      | (refine wpList_make_full _ rfl _ _ 42 rfl w.heap.size 3 i0 _ 1 Try.underlying42 hi0 hz0 hz1 _ _ _ _ 0 rfl rfl rfl rfl (by simp) (by decide) hb1.size ?_; intro w3 hown3 hg3; have HO3 := Lib.hid hown3; clear hown3))
    refine wp_loop_rounds 1 ?_
    rw [rounds_succ]
    go_wp2
    go_ret
    refine ⟨_, _, [], rfl, HO.out, ?_, hb1.trans ((below_none hg3).mono hb1.size)⟩
    have := HO3.out
    simpa [madeCells] using this
  · have hpos : 0 < d.length := by omega
    clear hd
    have hsrt : ∀ w1 blk c2, Below w.heap.size w w1 → w.heap.size ≤ blk → w1.ownsRow w.heap.size 58 1 (.slice (some ⟨blk, 0, none⟩) d.length c2) d.length (d.map En.val) →
        Calls Try.prog 23 #[.slice (some ⟨blk, 0, none⟩) d.length c2, .func (.func 24) #[] #[]] w1 fun e w' => e = .returned (.tuple #[]) ∧ ∃ d', Sorted w1 blk d w' d' := fun w1 blk c2 hb1 hge hown =>
      sort_some w1 d blk c2 w.heap.size hpos (by omega) (fun x hx => by
        obtain ⟨k, hk, rfl, hB⟩ := HH.out.raw.ek hx
        exact ⟨by have := hB.lt; omega, k, hB.below hb1 hB.lt⟩) hown
    have HS := Lib.hid hsrt
    clear hsrt
    go_enter Try.func15, Try.ntmps15
    go_wp2_with (first
      | (go_at_call 22; refine HC.out.mono ?_; rintro e w1 ⟨v2, rfl, hown1, hb1⟩; obtain ⟨blk, c2, rfl, hge⟩ := own_some hown1 hpos; have HO1 := Lib.hid hown1; clear hown1)
      | (go_at_call 23; refine (HS.out w1 blk c2 hb1 hge HO1.out).mono ?_; rintro e w2 ⟨rfl, d', hS⟩; have HSo := Lib.hid hS; have hle2 := hS.only.size; clear hS)
      | (refine wpList_make_full _ rfl _ _ 42 rfl w.heap.size 3 i0 _ 1 Try.underlying42 hi0 hz0 hz1 _ _ _ _ d.length rfl rfl rfl rfl (by rw [hz2]; omega) (by unfold maxLen; omega) (by have := hb1.size; omega) ?_; intro w3 hown3 hg3; have HO3 := Lib.hid hown3; have HG3 := Lib.hid hg3; clear hown3 hg3))
    have hsz3 := HG3.out.size
    have hsz1 := hb1.size
    have hdl : d'.length = d.length := HSo.out.perm.length_eq
    have hblt : blk < w2.heap.size := by
      have h1 := HSo.out.cell 0 (by omega)
      exact World.block_lt_of_cell? _ _ h1
    obtain ⟨ys, hys⟩ : ∃ ys, ys = d'.map En.e := ⟨_, rfl⟩
    have hyl : ys.length = d.length := by rw [hys, List.length_map, hdl]
    have hord : OrderOf s.xs ys := by rw [hys]; exact order_facts HH.out HSo.out.perm HSo.out.ord
    -- what the rounds read
    have rd : ∀ wr, w3.grownBy wr (some w2.heap.size) → ∀ k (hk : k < d.length), ∃ b, b < w2.heap.size ∧ wr.cell? ⟨blk, k, none⟩ = some (.pointer (some ⟨b, 0, none⟩)) ∧ wr.cell? ⟨b, 1, none⟩ = some (.int .i64 ((eth ys k).h : Int)) := fun wr hg k hk => by
      have hmem : nth d' k ∈ d := HSo.out.perm.mem_iff.1 (nth_mem (by omega))
      obtain ⟨q, hq, hqe, hB⟩ := HH.out.raw.ek hmem
      have hbl := hB.lt
      have hB1 := hB.below hb1 hbl
      have hB2 := hB1.grown HSo.out.only (fun e => by injection e with e; omega)
      have hB3 := hB2.grown HG3.out (fun e => by cases e)
      have hB4 := hB3.grown hg (fun e => by injection e with e; omega)
      refine ⟨(nth d' k).b, by omega, ?_, ?_⟩
      · rw [World.cell?_of_block (a := ⟨blk, k, none⟩) (hg.block blk (by omega) (fun e => by injection e with e; omega)), World.cell?_of_block (a := ⟨blk, k, none⟩) (HG3.out.block blk (by omega) (fun e => by cases e))]
        exact HSo.out.cell k (by omega)
      · have h1 := hB4.cell 1
        have h2 : (eth ys k).h = (nth d' k).h := by rw [eth_get (by omega)]; subst hys; rw [List.getElem_map, nth_get (by omega)]; rfl
        rw [h2]
        exact h1
    have HRD := Lib.hid rd
    have hst : w3.ownsRow w.heap.size 3 1 (.slice (some ⟨w2.heap.size, 0, none⟩) d.length d.length) d.length (told ys 0) := by
      have h1 := HO3.out
      rw [told_zero, hyl]
      rw [show (Value.int IntKind.i64 0).cells = #[Value.int IntKind.i64 0] from rfl, toList_madeCells_one, Nat.mul_one] at h1
      exact h1
    have HST := Lib.hid hst
    have HORD := Lib.hid hord
    have hb3 : Below w.heap.size w w3 := hb1.trans (by
      have h1 := HSo.out.only
      have h2 := HG3.out
      exact ⟨h2.os.trans h1.os, h2.tape.trans h1.tape, h2.output.trans h1.output, by omega, fun i hi => (h2.block i (by omega) (fun e => by cases e)).trans (h1.block i (by omega) (fun e => by injection e with e; omega))⟩)
    have HB3 := Lib.hid hb3
    have HYL := Lib.hid hyl
    clear rd hst hord hb3 hys hyl hb1
    go_loopw [19] (fun vi wr => ∃ k : Nat, vi = .int .i64 (k : Int) ∧ k ≤ d.length ∧ Hid (w3.grownBy wr (some w2.heap.size) ∧ wr.ownsRow w.heap.size 3 1 (.slice (some ⟨w2.heap.size, 0, none⟩) d.length d.length) d.length (told ys k))) (fun vi _ => d.length - (intOf vi).toNat)
    case atStart => exact ⟨0, rfl, Nat.zero_le _, Lib.hid ⟨⟨rfl, rfl, rfl, Nat.le_refl _, fun _ _ _ => rfl⟩, HST.out⟩⟩
    case round =>
      obtain ⟨k, rfl, hk, HI⟩ := hrel
      by_cases hlt : k < d.length
      · obtain ⟨b, hbl, r1, r2⟩ := HRD.out wr HI.out.1 k hlt
        have r3 : ∃ u, wr.cell? ⟨w2.heap.size, k, none⟩ = some u := by
          have h1 := HI.out.2.cellAt k (by omega)
          rw [h1]
          have h2 := HI.out.2.1
          exact ⟨_, List.getElem?_eq_getElem (by omega)⟩
        obtain ⟨u, r3⟩ := r3
        have r4 := HI.out.2.frozenAt k
        have hstd := HI.out.2.stored k (hcell (eth ys k))
        rw [told_next (by rw [HYL.out]; exact hlt)] at hstd
        have HSD := Lib.hid hstd
        unfold hcell at HSD
        generalize (eth ys k).h = hh at r2 HSD
        clear hstd
        go_wp2
        go_roundw
        case rel => exact ⟨k + 1, by go_num, by omega, Lib.hid ⟨only_trans HI.out.1 HSD.out.2, HSD.out.1⟩⟩
        case measure => simp [intOf]; omega
      · obtain rfl : d.length = k := by omega
        go_wp2
        go_ret
        have hfin := HI.out.2
        rw [← HYL.out, told_all] at hfin
        refine ⟨some ⟨w2.heap.size, 0, none⟩, d.length, ys, by rw [HYL.out]; rfl, HORD.out, by rw [HYL.out] at hfin; rw [HYL.out]; exact hfin, HB3.out.trans ?_⟩
        have hg := HI.out.1
        exact ⟨hg.os, hg.tape, hg.output, hg.size, fun i hi => hg.block i (by omega) (fun e => by injection e with e; omega)⟩
end
end Go.Proofs.Ytkfkjpabollaoaa
