/-
  A reader in memory, by its state: what each of its calls answers and leaves.
  Conditions: the reader is one of bytes, at most 2^40.
-/
import Derived.Test.YtihkadbcjeohjaaFldNew
import Derived.Test.YtihkadbcjeohjaaCodMath
import Derived.Test.YtihkadbcjeohjaaDefEnd
namespace Go.Proofs.Ytihkadbcjeohjaa.Co
open Go.RowKit
open Go.Proofs.Ytihkadbcjeohjaa.El
open Go.Proofs.Ytihkadbcjeohjaa.Df
open Go.Proofs.Ytihkadbcjeohjaa.Bo (P Made ret_int ret_bool)
open Go.Proofs.Ytihkadbcjeohjaa.Sa (Sg Rp)

/-- a reader at block g that was there in W; nothing else of W has turned since -/
structure RdAt (W u : World) (g : Nat) (l : List UInt8) (s : Ps) : Prop where
  rd : Rd u g l s.p s.o s.e
  gr : W.grownBy u (some g)
  lt : g < W.heap.size
section
variable {W u v : World} {g : Nat} {l : List UInt8} {s t : Ps}
theorem row_far (u : World) {q i : Nat} (h : i ≠ q) (cs : Array Value) : (u.setRow q cs).heap[i]? = u.heap[i]? := setRow_other u q i cs h
theorem Rd.other {u v : World} {g : Nat} {l : List UInt8} {p o e : Nat} (h : Rd u g l p o e) (hs : ∀ i, i ≤ g → v.heap[i]? = u.heap[i]?) : Rd v g l p o e := by
  obtain ⟨A, c, hc, hb, hy⟩ := h.box
  refine ⟨h.le, h.small, h.none, A, c, hc, (hs g (Nat.le_refl _)).trans hb, fun hl => ?_⟩
  obtain ⟨b, o', e', hlt, hcell⟩ := hy hl
  exact ⟨b, o', e', hlt, fun k hk => (World.cell?_of_block (hs b (by omega))).trans (hcell k hk)⟩
theorem RdAt.refl (h : Rd W g l s.p s.o s.e) (hg : g < W.heap.size) : RdAt W W g l s := ⟨h, World.grownBy.refl _ _, hg⟩
theorem RdAt.trans (h : RdAt W u g l s) (k : RdAt u v g l t) : RdAt W v g l t := ⟨k.rd, only_trans h.gr k.gr, h.lt⟩
theorem RdAt.alloc (h : RdAt W u g l s) (o : Obj) : RdAt W (u.alloc o) g l s := by
  have hs := h.gr.size
  have hlt := h.lt
  refine ⟨Rd.other h.rd (fun i hi => Below.heap_alloc u o i (by omega)), ⟨h.gr.os, h.gr.tape, h.gr.output, by rw [World.size_alloc]; omega, fun i hi hx => ?_⟩, hlt⟩
  exact (Below.heap_alloc u o i (by omega)).trans (h.gr.block i hi hx)
theorem RdAt.drew (h : RdAt W u g l s) : RdAt W u.drew g l s := ⟨Rd.other h.rd (fun _ _ => rfl), ⟨h.gr.os, h.gr.tape, h.gr.output, h.gr.size, h.gr.block⟩, h.lt⟩
theorem RdAt.drewN (h : RdAt W u g l s) (n : Nat) : RdAt W (u.drewN n) g l s := ⟨Rd.other h.rd (fun _ _ => rfl), ⟨h.gr.os, h.gr.tape, h.gr.output, h.gr.size, h.gr.block⟩, h.lt⟩
theorem RdAt.row (h : RdAt W u g l s) {q : Nat} (hq : W.heap.size ≤ q) (cs : Array Value) : RdAt W (u.setRow q cs) g l s := by
  have hlt := h.lt
  refine ⟨Rd.other h.rd (fun i hi => row_far u (by omega) cs), ⟨h.gr.os, h.gr.tape, h.gr.output, by rw [setRow_size]; exact h.gr.size, fun i hi hx => ?_⟩, hlt⟩
  exact (row_far u (by omega) cs).trans (h.gr.block i hi hx)
theorem RdAt.put (h : RdAt W u g l s) {q : Nat} (hq : W.heap.size ≤ q) (i : Nat) (x : Value) : RdAt W (u.setCell ⟨q, i, none⟩ x) g l s := by
  have hlt := h.lt
  have hb : ∀ j, j < W.heap.size → (u.setCell ⟨q, i, none⟩ x).heap[j]? = u.heap[j]? := fun j hj => Below.heap_setCell u ⟨q, i, none⟩ x j (show j ≠ q by omega)
  refine ⟨Rd.other h.rd (fun j hj => hb j (by omega)), ⟨h.gr.os, h.gr.tape, h.gr.output, by simpa [World.setCell] using h.gr.size, fun j hj hx => (hb j hj).trans (h.gr.block j hj hx)⟩, hlt⟩
/-- behind a call that turns nothing that is there -/
theorem RdAt.below (h : RdAt W u g l s) (hb : Below u.heap.size u v) : RdAt W v g l s := by
  have hlt := h.lt
  have hs := h.gr.size
  refine ⟨Rd.other h.rd (fun i hi => hb.block i (by omega)), ⟨hb.os.trans h.gr.os, hb.tape.trans h.gr.tape, hb.output.trans h.gr.output, Nat.le_trans hs hb.size, fun i hi hx => ?_⟩, hlt⟩
  exact (hb.block i (by omega)).trans (h.gr.block i hi hx)
theorem RdAt.size (h : RdAt W u g l s) : W.heap.size ≤ u.heap.size := h.gr.size
theorem RdAt.box (h : RdAt W u g l s) {i : Nat} {t : TypeId} {cs : Array Value} (hb : Box W i t cs) (hi : i ≠ g) : Box u i t cs := hb.grown h.gr (by intro e; injection e with e; exact hi e)
theorem RdAt.cell (h : RdAt W u g l s) {i j : Nat} {t : TypeId} {cs : Array Value} (hb : Box W i t cs) (hi : i ≠ g) : u.cell? ⟨i, j, none⟩ = cs[j]? := (h.box hb hi).cell j
/-- what a call of the reader answers and leaves -/
def RdTo (W : World) (g : Nat) (l : List UInt8) (t : Ps) (v : Value) (e : Ending) (w' : World) : Prop := e = .returned v ∧ RdAt W w' g l t
theorem num_s (h : RdAt W u g l s) : Calls Try.prog 42 #[.pointer (some ⟨g, 0, none⟩)] u fun e w' => e = .returned (.int .i64 (numQ l s : Nat)) ∧ RdAt W w' g l (numS l s) := by
  refine (rnum_any g s.p s.o s.e l u h.rd).mono ?_
  rintro e w' ⟨rfl, h1, h2⟩
  exact ⟨rfl, h1, only_trans h.gr h2, h.lt⟩
theorem flg_s (h : RdAt W u g l s) : Calls Try.prog 44 #[.pointer (some ⟨g, 0, none⟩)] u fun e w' => e = .returned (.bool (flgQ l s)) ∧ RdAt W w' g l (flgS l s) := by
  refine (rflag_any g s.p s.o s.e l u h.rd).mono ?_
  rintro e w' ⟨rfl, h1, h2⟩
  exact ⟨rfl, h1, only_trans h.gr h2, h.lt⟩
theorem cnt_s (h : RdAt W u g l s) : Calls Try.prog 60 #[.pointer (some ⟨g, 0, none⟩), .int .i64 32, .int .i64 96] u fun e w' => e = .returned (.int .i64 (cntQ l s : Nat)) ∧ RdAt W w' g l (cntS l s) := by
  refine (rcount_any g s.p s.o s.e 32 96 l u h.rd (by omega) (by omega)).mono ?_
  rintro e w' ⟨rfl, h1, h2⟩
  exact ⟨rfl, h1, only_trans h.gr h2, h.lt⟩
theorem end_s (h : RdAt W u g l s) : Calls Try.prog 62 #[.pointer (some ⟨g, 0, none⟩)] u fun e w' => e = .returned (.bool (decide ((endS l s).e = 0))) ∧ RdAt W w' g l (endS l s) := by
  refine (rend_any g s.p s.o s.e l u h.rd).mono ?_
  rintro e w' ⟨rfl, h1, h2⟩
  refine ⟨?_, h1, only_trans h.gr h2, h.lt⟩
  have : okB s.e (endE l s.p) = decide ((endS l s).e = 0) := by
    show okB s.e (endE l s.p) = decide (nxE s.e (endE l s.p) = 0)
    unfold okB nxE
    by_cases h0 : s.e = 0
    · rw [if_pos h0, h0]
      rfl
    · rw [if_neg h0]
      simp [h0]
  rw [this]
theorem err_s (h : RdAt W u g l s) : Calls Try.prog 63 #[.pointer (some ⟨g, 0, none⟩)] u fun e w' => e = .returned (.tuple #[.int .i64 (s.o : Nat), .int .i64 (s.e : Nat)]) ∧ ∃ m, w' = u.drewN m := by
  obtain ⟨A, c, _, hb, _⟩ := h.rd.box
  exact err_any g s.o s.e u (hb.cell 2) (hb.cell 3)
theorem text_s (h : RdAt W u g l s) : Calls Try.prog 43 #[.agg #[.pointer (some ⟨g, 0, none⟩)]] u fun e w' => e = .returned (.string (txtQ l s)) ∧ RdAt W w' g l (txtS l s) := by
  have HT := Lib.hid (rtext_any g s.p s.o s.e 256 l (u.alloc (.cells #[.pointer (some ⟨g, 0, none⟩)] 80)) (h.alloc _).rd)
  have HR := Lib.hid (h.alloc (.cells #[.pointer (some ⟨g, 0, none⟩)] 80))
  clear h
  go_enter Try.func43, Try.ntmps43
  go_wp2_with fail
  refine HT.out.mono ?_
  rintro e w1 ⟨rfl, h1, h2⟩
  have HR1 := Lib.hid (show RdAt W w1 g l (txtS l s) from ⟨h1, only_trans HR.out.gr h2, HR.out.lt⟩)
  clear h1 h2
  go_wp2_with fail
  go_ret
  exact ⟨rfl, HR1.out⟩
end
end Go.Proofs.Ytihkadbcjeohjaa.Co
