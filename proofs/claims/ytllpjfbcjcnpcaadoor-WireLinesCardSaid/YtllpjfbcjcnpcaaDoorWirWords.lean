/-
  A line's words, taken one by one by a closure.
  Conditions: the line is of moderate length; the listed variables hold what they do.
-/
import Derived.Test.YtllpjfbcjcnpcaaDoorWirLine
import Derived.Test.YtllpjfbcjcnpcaaDoorTk
import Derived.Laws.EntriesVeiled
namespace Go.Proofs.YtllpjfbcjcnpcaaDoor.Wi
open Go.RowKit
open Go.Proofs.YtllpjfbcjcnpcaaDoor.El
open Go.Proofs.YtllpjfbcjcnpcaaDoor.Df
open Go.Lib (decDigits)

theorem grown_below {w w' : World} (h : Below w.heap.size w w') {row : Option Nat} : w.grownBy w' row := ⟨h.os, h.tape, h.output, h.size, fun k hk _ => h.block k hk⟩
theorem fst_tx (l : List UInt8) : (⟨(fst (tx l).data.toList).toArray⟩ : ByteArray) = tx (fst l) := by rw [tx_list]; rfl
theorem rst_tx (l : List UInt8) : (⟨(rst (tx l).data.toList).toArray⟩ : ByteArray) = tx (rst l) := by rw [tx_list]; rfl
set_option maxRecDepth 100000 in
set_option maxHeartbeats 1000000 in
theorem next_any (b : Nat) (l : List UInt8) (w : World) (hG : Gl w) (hs : l.length ≤ 1000000) (hB : Box w b 9 #[.string (tx l)]) :
    Calls Tryd.prog 41 #[.pointer (some ⟨b, 0, none⟩)] w fun e w' => e = .returned (.string (tx (fst l))) ∧ w.grownBy w' (some b) ∧ Box w' b 9 #[.string (tx (rst l))] := by
  have hc := cutw_any (tx l) w hG (by rw [tx_size]; exact hs)
  rw [fst_tx, rst_tx] at hc
  have HC := Lib.hid (hc.mono (R' := fun e w' => ∃ bb, e = .returned (.tuple #[.string (tx (fst l)), .string (tx (rst l)), .bool bb]) ∧ Box w' b 9 #[.string (tx l)] ∧ w.grownBy w' (some b)) fun e w' ⟨bb, h1, n, h2⟩ => ⟨bb, h1, by rw [h2]; exact hB.drewN n, by rw [h2]; exact only_drewN (World.grownBy.refl w _) n⟩)
  have c0 := hB.cell 0
  clear hc hG hs hB
  generalize tx (fst l) = x at *
  generalize tx (rst l) = y at *
  generalize tx l = z at *
  go_enter Tryd.func41, Tryd.ntmps41
  go_wp2_with (go_at_call 42; (with_reducible refine HC.out.mono ?_); rintro e w1 ⟨bb, rfl, hb, hg⟩; have HX := Lib.hid hb; have HY := Lib.hid hg; have d0 := hb.cell 0; have f0 := hb.frozen 0; clear hb hg)
  go_ret
  exact ⟨rfl, only_put HY.out 0 _, HX.out.put 0 _⟩
/-- a closure over block b, kept in block g, that has the words l yet; what lies below B stays -/
structure Wd (w0 : World) (g b : Nat) (w : World) (l : List UInt8) : Prop where
  below : Below w0.heap.size w0 w
  fn : Box w g 49 #[.func (.func 41) #[] #[.pointer (some ⟨b, 0, Option.none⟩)]]
  tx : Box w b 9 #[.string (tx l)]
  hg : w0.heap.size ≤ g
  hb : w0.heap.size ≤ b
  gl : Gl w0
  len : l.length ≤ 1000000
theorem Wd.ne {w0 w : World} {g b : Nat} {l : List UInt8} (h : Wd w0 g b w l) : g ≠ b := h.fn.apart h.tx (by decide)
theorem Wd.glo {w0 w : World} {g b : Nat} {l : List UInt8} (h : Wd w0 g b w l) : Gl w := h.gl.on h.below
theorem Wd.cell {w0 w : World} {g b : Nat} {l : List UInt8} (h : Wd w0 g b w l) : w.cell? ⟨g, 0, Option.none⟩ = some (.func (.func 41) #[] #[.pointer (some ⟨b, 0, Option.none⟩)]) := h.fn.cell 0
theorem Wd.alloc {w0 w : World} {g b : Nat} {l : List UInt8} (h : Wd w0 g b w l) (o : Obj) : Wd w0 g b (w.alloc o) l := ⟨h.below.alloc h.below.size _, h.fn.alloc _, h.tx.alloc _, h.hg, h.hb, h.gl, h.len⟩
theorem Wd.next {w0 w w' : World} {g b : Nat} {l : List UInt8} (h : Wd w0 g b w l) (hg : w.grownBy w' (some b)) (hx : Box w' b 9 #[.string (Wi.tx (rst l))]) : Wd w0 g b w' (rst l) :=
  ⟨h.below.grown hg h.below.size (fun k hk => by injection hk with hk; rw [← hk]; exact h.hb), h.fn.grown hg (by intro e; injection e with e; exact h.ne e), hx, h.hg, h.hb, h.gl, Nat.le_trans (rst_len l) h.len⟩
theorem Wd.call {w0 w : World} {g b : Nat} {l : List UInt8} (h : Wd w0 g b w l) :
    Calls Tryd.prog 41 #[.pointer (some ⟨b, 0, Option.none⟩)] w fun e w' => e = .returned (.string (Wi.tx (fst l))) ∧ Wd w0 g b w' (rst l) ∧ w.grownBy w' (some b) :=
  (next_any b l w h.glo h.len h.tx).mono fun _ _ ⟨h1, h2, h3⟩ => ⟨h1, h.next h2 h3, h2⟩
set_option maxRecDepth 100000 in
set_option maxHeartbeats 1000000 in
theorem Wd.num {w0 w : World} {g b : Nat} {l : List UInt8} (h : Wd w0 g b w l) :
    Calls Tryd.prog 28 #[.agg #[.func (.func 41) #[] #[.pointer (some ⟨b, 0, Option.none⟩)]]] w fun e w' => ∃ n, e = .returned (.int .i64 n) ∧ NumW (fst l) n ∧ Wd w0 g b w' (rst l) ∧ w.grownBy w' (some b) := by
  have eg : ∀ args w, (callFunc 41 args).run Tryd.prog w = .ok (.enter 41 args) w := enters_of Tryd.func41 (by kernel_rfl) rfl
  have H0 := Lib.hid h
  have HN := Lib.hid (h.alloc (.cells #[.func (.func 41) #[] #[.pointer (some ⟨b, 0, Option.none⟩)]] 49)).call
  have HA : Hid (∀ u, Gl u → Calls Tryd.prog 43 #[.string (Wi.tx (fst l))] u fun e w' => ∃ n v, e = .returned (.tuple #[.int .i64 n, v]) ∧ NumW (fst l) n ∧ Below u.heap.size u w') := Lib.hid fun u hu => by
    have := atoi_any (Wi.tx (fst l)) u hu (by rw [tx_size]; exact Nat.le_trans (fst_len l) h.len)
    rw [tx_list] at this
    exact this
  have HG : Hid (w.grownBy (w.alloc (.cells #[.func (.func 41) #[] #[.pointer (some ⟨b, 0, Option.none⟩)]] 49)) (some b)) := Lib.hid (grown_below ((Below.refl w.heap.size w).alloc (Nat.le_refl _) _))
  clear h
  go_enter Tryd.func28, Tryd.ntmps28
  go_wp2_with (first
    | (go_at_call 41; (with_reducible refine HN.out.mono ?_); rintro e w1 ⟨rfl, hw1, hg1⟩; have H1 := Lib.hid hw1; have G1 := Lib.hid (only_trans HG.out hg1); clear hw1 hg1)
    | (go_at_call 43; (with_reducible refine (HA.out _ H1.out.glo).mono ?_); rintro e w2 ⟨n, v, rfl, hn, hb2⟩; have HNW := Lib.hid hn; have H2 := Lib.hid hb2; clear hn hb2))
  go_ret
  refine ⟨n, rfl, HNW.out, ?_, only_trans G1.out (grown_below H2.out)⟩
  have h1 := H1.out
  have hb := H2.out
  exact ⟨h1.below.trans (hb.mono h1.below.size), h1.fn.below hb h1.fn.lt, h1.tx.below hb h1.tx.lt, h1.hg, h1.hb, h1.gl, h1.len⟩
set_option maxRecDepth 100000 in
set_option maxHeartbeats 1000000 in
theorem wordsOf_any (s : ByteArray) (w : World) :
    Calls Tryd.prog 27 #[.string s] w fun e w' => e = .returned (.agg #[.func (.func 41) #[] #[.pointer (some ⟨w.heap.size, 0, Option.none⟩)]]) ∧ Box w' w.heap.size 9 #[.string s] ∧ Below w.heap.size w w' := by
  have hB2 := box_new2 w (.cells #[.string s] 9) 49 #[.func (.func 41) #[] #[.pointer (some ⟨w.heap.size, 0, Option.none⟩)]]
  have hB1 := (Box.new w 9 #[.string s]).alloc (.cells #[.func (.func 41) #[] #[.pointer (some ⟨w.heap.size, 0, Option.none⟩)]] 49)
  have hbl := ((Below.refl w.heap.size w).alloc (Nat.le_refl _) (.cells #[.string s] 9)).alloc (by simp) (.cells #[.func (.func 41) #[] #[.pointer (some ⟨w.heap.size, 0, Option.none⟩)]] 49)
  have H0 := Lib.hid (And.intro hB2 (And.intro hB1 hbl))
  clear hB1 hB2 hbl
  go_enter Tryd.func27, Tryd.ntmps27
  go_wp2
  refine bodyPost_ret (results_cell_row rfl _ _ (w.heap.size + 1) 49 #[.func (.func 41) #[] #[.pointer (some ⟨w.heap.size, 0, Option.none⟩)]] (0, 0) _ rfl H0.out.1 Tryd.underlying49 rfl (by kernel_rfl)) rfl ⟨rfl, H0.out.2⟩
end Go.Proofs.YtllpjfbcjcnpcaaDoor.Wi
