/-
  The document's own answers for lines: Command, CommandLine, ReplyLine; Answer.
  Conditions: names and keys of moderate length.
-/
import Derived.Test.YtllpjfbcjcnpcaaDoorWirLine
import Derived.Laws.ResultCell
namespace Go.Proofs.YtllpjfbcjcnpcaaDoor.Wi
open Go.RowKit
open Go.Proofs.YtllpjfbcjcnpcaaDoor.El
open Go.Proofs.YtllpjfbcjcnpcaaDoor.Df
open Go.Lib (decDigits)

set_option maxRecDepth 100000 in
set_option maxHeartbeats 4000000 in
theorem rcommand_any (c : Cm) (w : World) (hp : c.pt.size ≤ 1000000) (hk : c.ky.size ≤ 1000000) :
    Calls Tryd.prog 7 #[.agg #[.int .i64 c.sg, .int .i64 c.st, .bool c.un, .int .i64 c.tr, .string c.pt, .string c.ky]] w fun e w' => e = .returned (.bool (goodB c)) ∧ Below w.heap.size w w' := by
  have H1 := Lib.hid (fits_is c.sg)
  have H2 := Lib.hid (fits_is c.st)
  have H3 := Lib.hid (fits_is c.tr)
  have HL := Lib.hid (fun u => rgood_any c.pt u (by omega))
  have HK := Lib.hid (fun u => read_any c.ky u hk)
  have HX := Lib.hid (Box.new w 23 #[.int .i64 c.sg, .int .i64 c.st, .bool c.un, .int .i64 c.tr, .string c.pt, .string c.ky])
  have HB0 := Lib.hid ((Below.refl w.heap.size w).alloc (Nat.le_refl _) (.cells #[.int .i64 c.sg, .int .i64 c.st, .bool c.un, .int .i64 c.tr, .string c.pt, .string c.ky] 23))
  have HV := Lib.hid (good_val c)
  unfold numsB at HV
  unfold ReadPost at HK
  generalize goodB c = gb at *
  generalize fitB c.sg = f1 at *
  generalize fitB c.st = f2 at *
  generalize fitB c.tr = f3 at *
  generalize nameB c.pt.data.toList = lb at *
  clear hp hk
  go_enter Tryd.func7, Tryd.ntmps7
  go_wp2_with (first
    | (go_at_call 20; (with_reducible refine (HK.out _).mono ?_); rintro e w1 ⟨n, x, u, ok, rfl, hI, hb1⟩; have HI := Lib.hid (key_val hI); have HB1 := Lib.hid (HB0.out.trans (hb1.mono (by simp))); have bb := HX.out.below hb1 (by simp); have c0 := bb.cell 0; have c1 := bb.cell 1; have c2 := bb.cell 2; have c3 := bb.cell 3; have c4 := bb.cell 4; have hlt := bb.lt; clear hI hb1 bb)
    | (go_at_call 21; (with_reducible refine (H1.out _).mono ?_); rintro e w2 ⟨rfl, rfl⟩)
    | (go_at_call 21; (with_reducible refine (H2.out _).mono ?_); rintro e w2 ⟨rfl, rfl⟩)
    | (go_at_call 21; (with_reducible refine (H3.out _).mono ?_); rintro e w2 ⟨rfl, rfl⟩)
    | (go_at_call 22; (with_reducible refine (HL.out _).mono ?_); rintro e w2 ⟨rfl, rfl⟩))
  all_goals
    have hi := HI.out
    have hv := HV.out
    rw [hi] at hv
    have hbb := HB1.out.alloc HB1.out.size (.cells #[.int .i64 n, .string x, .bool u, .bool ok] 41)
    go_ret
    refine ⟨ret_b ?_, ?_⟩
    · rw [hv]
      simp_all
    · first | exact hbb | (simp_all; done)
set_option maxRecDepth 100000 in
set_option maxHeartbeats 4000000 in
theorem answer_any (c : Cm) (good : Bool) (w : World) :
    Calls Tryd.prog 16 #[.agg #[.int .i64 c.sg, .int .i64 c.st, .bool c.un, .int .i64 c.tr, .string c.pt, .string c.ky], .bool good] w fun e w' => e = .returned (.agg #[.int .i64 c.sg, .int .i64 c.st, .bool c.un, .int .i64 c.tr, .bool good]) ∧ Below w.heap.size w w' := by
  have hB2 := box_new2 w (.cells #[.int .i64 c.sg, .int .i64 c.st, .bool c.un, .int .i64 c.tr, .string c.pt, .string c.ky] 23) 25 #[.int .i64 c.sg, .int .i64 c.st, .bool c.un, .int .i64 c.tr, .bool good]
  have hbl := ((Below.refl w.heap.size w).alloc (Nat.le_refl _) (.cells #[.int .i64 c.sg, .int .i64 c.st, .bool c.un, .int .i64 c.tr, .string c.pt, .string c.ky] 23)).alloc (by simp) (.cells #[.int .i64 c.sg, .int .i64 c.st, .bool c.un, .int .i64 c.tr, .bool good] 25)
  have H0 := Lib.hid (And.intro hB2 hbl)
  clear hB2 hbl
  go_enter Tryd.func16, Tryd.ntmps16
  go_wp2
  refine bodyPost_ret (results_cell_row rfl _ _ (w.heap.size + 1) 25 _ (0, 0) _ rfl H0.out.1 Tryd.underlying25 rfl (by kernel_rfl)) rfl ⟨rfl, H0.out.2⟩
end Go.Proofs.YtllpjfbcjcnpcaaDoor.Wi
