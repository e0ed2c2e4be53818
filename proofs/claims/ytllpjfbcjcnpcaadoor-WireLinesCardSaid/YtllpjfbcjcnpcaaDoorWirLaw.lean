/-
  What the rows list, arguments that are commands and replies by value, opened; the statements' own awake.
  Conditions: as each theorem names them.
-/
import Derived.Test.YtllpjfbcjcnpcaaDoorWirReadC
import Derived.Test.YtllpjfbcjcnpcaaDoorWirReadR
import Derived.Test.YtllpjfbcjcnpcaaDoorWirRefL
import Derived.Test.YtllpjfbcjcnpcaaDoorCards
import Derived.Test.YtllpjfbcjcnpcaaDoorTie
import Derived.Test.YtllpjfbcjcnpcaaDoorFrame
import Derived.Lib.LaidTab
import Derived.Stop.LaidErr
import Derived.ProofKit
import Derived.OpenShut
import Derived.ShutString
import Derived.LaidMore
import Derived.Lay
import Derived.Shelf.Vars
import Derived.Stop.Joined
import Derived.SizedLaws
namespace Go.Proofs.YtllpjfbcjcnpcaaDoor.Wi
open Go.ChangeShapes Go.WideShapes Go.ChangeAt Go.RowKit
open Go.Proofs.YtllpjfbcjcnpcaaDoor.El
open Go.Proofs.YtllpjfbcjcnpcaaDoor.Df
open Go.Lib (decDigits)

theorem own : ownKnob Tryd.prog.godebug = Option.none := by kernel_rfl
theorem laidOut : laidOutB Tryd.prog = true := by kernel_rfl
theorem cellsI : Tryd.prog.cellsOf 3 = 1 := by kernel_rfl
theorem cellsStr : Tryd.prog.cellsOf 9 = 1 := by kernel_rfl
theorem cellsBo : Tryd.prog.cellsOf 4 = 1 := by kernel_rfl
theorem cellsC : Tryd.prog.cellsOf 23 = 6 := by kernel_rfl
theorem cellsR : Tryd.prog.cellsOf 25 = 5 := by kernel_rfl
theorem star : "*" ++ "errors.errorString" = "*errors.errorString" := by decide
theorem row_err (u : TypeId) (h : Tryd.prog.typeName? 3 u = some "*errors.errorString") : u = 116 :=
  typeName_ptr_named (nm := "errors.errorString") (by rw [star]; kernel_rfl) (by kernel_rfl) (by decide) u (by rw [star]; exact h)
theorem gl_of {W : World} (h : laidMetH Tryd.prog Rows.wireLinesRow.laid W) (hsh : W.ShapedOpen Tryd.prog) : Gl W := by
  rw [MakeChecks.laidMetH_plain _ _ _ (by kernel_rfl)] at h
  have h2 := laidMet.tail (laidMet.tail h)
  have h4 := laidMet.tail (laidMet.tail h2)
  have h5 := laidMet.tail h4
  have e : (Rows.laid_internal_strconv_uint64pow10 : DataW Unit) = Lib.tabData .u64 Lib.pow10Tab := by kernel_rfl
  rw [show (Rows.laid_internal_strconv_uint64pow10 : DataW Unit) = Lib.tabData .u64 Lib.pow10Tab from e] at h2
  have hT : Tab W := Lib.tabIs_of_head (g := 3) (t := 109) (e := 93) (n := 20) (by kernel_rfl) (by kernel_rfl) Tryd.underlying109 Tryd.underlying93 (by kernel_rfl) (by kernel_rfl) h2
  obtain ⟨a1, s1, hv1, _⟩ := laid_sentinel (g := 2) (ti := 65) (tp := 116) (te := 118) (ts := 9) h4 (by kernel_rfl) (by kernel_rfl) Tryd.underlying65 row_err Tryd.underlying116 Tryd.underlying118 rfl rfl Tryd.underlying9 (by kernel_rfl) (by kernel_rfl)
  obtain ⟨a2, s2, hv2, _⟩ := laid_sentinel (g := 1) (ti := 65) (tp := 116) (te := 118) (ts := 9) h5 (by kernel_rfl) (by kernel_rfl) Tryd.underlying65 row_err Tryd.underlying116 Tryd.underlying118 rfl rfl Tryd.underlying9 (by kernel_rfl) (by kernel_rfl)
  have c1 : W.cell? ⟨2, 0, Option.none⟩ = some (.iface 116 (.pointer (some a1))) := by simpa using World.var?_cell (g := 2) (by kernel_rfl) hv1 0
  have c2 : W.cell? ⟨1, 0, Option.none⟩ = some (.iface 116 (.pointer (some a2))) := by simpa using World.var?_cell (g := 1) (by kernel_rfl) hv2 0
  obtain ⟨m, hm⟩ := cell_of_shapedOpen_int (P := Tryd.prog) (g := 0) (t := 3) (zero := #[.int .i64 0]) hsh (of_decide_eq_true (by kernel_rfl)) (by kernel_rfl) rfl (by kernel_rfl) (by kernel_rfl) Tryd.underlying3
  exact ⟨⟨m, hm⟩, ⟨_, _, c2⟩, ⟨_, _, c1⟩, hT⟩
section
variable {H : Type} {enc : TypeId × Value → H} {W : World}
set_option maxRecDepth 100000 in
theorem arg_cm {r : Reach} {base : Nat} {v : Value} {d : DataW H} {pl : List MemPlace} (hv : Value.okWide Tryd.prog W r base 23 v)
    (h : DataW.Trod enc Tryd.prog W 0 (fun _ => true) true 23 v d pl) : ∃ c : Cm, v = .agg #[.int .i64 c.sg, .int .i64 c.st, .bool c.un, .int .i64 c.tr, .string c.pt, .string c.ky] := by
  obtain ⟨cs, rfl, hsz⟩ := okWide_struct Tryd.underlying23 hv
  rw [cellsC] at hsz
  obtain ⟨cs⟩ := cs
  obtain ⟨fuel, hf⟩ := h
  replace hf : DataW.trod enc Tryd.prog W 0 (fun _ => true) true fuel 23 cs = some (d, pl) := hf
  obtain ⟨ys, n', _, hx, _, hyl, hfld⟩ := DataW.trod_struct Tryd.underlying23 hf
  simp only [List.size_toArray, List.length_cons, List.length_nil, Nat.reduceAdd] at hyl
  have e0 : DataW.trod enc Tryd.prog W 0 (fun _ => true) true n' 3 ((cs.drop 0).take (Tryd.prog.cellsOf 3)) = ys[0]? := hfld 0 _ rfl
  have e1 : DataW.trod enc Tryd.prog W 0 (fun _ => true) true n' 3 ((cs.drop 1).take (Tryd.prog.cellsOf 3)) = ys[1]? := hfld 1 _ rfl
  have e2 : DataW.trod enc Tryd.prog W 0 (fun _ => true) true n' 4 ((cs.drop 2).take (Tryd.prog.cellsOf 4)) = ys[2]? := hfld 2 _ rfl
  have e3 : DataW.trod enc Tryd.prog W 0 (fun _ => true) true n' 3 ((cs.drop 3).take (Tryd.prog.cellsOf 3)) = ys[3]? := hfld 3 _ rfl
  have e4 : DataW.trod enc Tryd.prog W 0 (fun _ => true) true n' 9 ((cs.drop 4).take (Tryd.prog.cellsOf 9)) = ys[4]? := hfld 4 _ rfl
  have e5 : DataW.trod enc Tryd.prog W 0 (fun _ => true) true n' 9 ((cs.drop 5).take (Tryd.prog.cellsOf 9)) = ys[5]? := hfld 5 _ rfl
  match cs, hsz, ys, hyl with
  | [c0, c1, c2, c3, c4, c5], _, [y0, y1, y2, y3, y4, y5], _ =>
    simp only [cellsI, cellsStr, cellsBo, List.drop_zero, List.drop_succ_cons, List.take_succ_cons, List.take_zero, List.getElem?_cons_zero, List.getElem?_cons_succ] at e0 e1 e2 e3 e4 e5
    obtain ⟨x0, q0, _, _⟩ := DataW.trod_int Tryd.underlying3 e0
    obtain ⟨x1, q1, _, _⟩ := DataW.trod_int Tryd.underlying3 e1
    obtain ⟨x2, q2, _⟩ := DataW.trod_bool Tryd.underlying4 e2
    obtain ⟨x3, q3, _, _⟩ := DataW.trod_int Tryd.underlying3 e3
    obtain ⟨x4, q4, _, _⟩ := DataW.trod_string Tryd.underlying9 e4
    obtain ⟨x5, q5, _, _⟩ := DataW.trod_string Tryd.underlying9 e5
    simp only [List.cons.injEq, and_true] at q0 q1 q2 q3 q4 q5
    subst q0 q1 q2 q3 q4 q5
    exact ⟨⟨x0, x1, x2, x3, x4, x5⟩, rfl⟩
set_option maxRecDepth 100000 in
theorem arg_rp {r : Reach} {base : Nat} {v : Value} {d : DataW H} {pl : List MemPlace} (hv : Value.okWide Tryd.prog W r base 25 v)
    (h : DataW.Trod enc Tryd.prog W 0 (fun _ => true) true 25 v d pl) : ∃ c : Rp, v = .agg #[.int .i64 c.sg, .int .i64 c.st, .bool c.un, .int .i64 c.tr, .bool c.gd] := by
  obtain ⟨cs, rfl, hsz⟩ := okWide_struct Tryd.underlying25 hv
  rw [cellsR] at hsz
  obtain ⟨cs⟩ := cs
  obtain ⟨fuel, hf⟩ := h
  replace hf : DataW.trod enc Tryd.prog W 0 (fun _ => true) true fuel 25 cs = some (d, pl) := hf
  obtain ⟨ys, n', _, hx, _, hyl, hfld⟩ := DataW.trod_struct Tryd.underlying25 hf
  simp only [List.size_toArray, List.length_cons, List.length_nil, Nat.reduceAdd] at hyl
  have e0 : DataW.trod enc Tryd.prog W 0 (fun _ => true) true n' 3 ((cs.drop 0).take (Tryd.prog.cellsOf 3)) = ys[0]? := hfld 0 _ rfl
  have e1 : DataW.trod enc Tryd.prog W 0 (fun _ => true) true n' 3 ((cs.drop 1).take (Tryd.prog.cellsOf 3)) = ys[1]? := hfld 1 _ rfl
  have e2 : DataW.trod enc Tryd.prog W 0 (fun _ => true) true n' 4 ((cs.drop 2).take (Tryd.prog.cellsOf 4)) = ys[2]? := hfld 2 _ rfl
  have e3 : DataW.trod enc Tryd.prog W 0 (fun _ => true) true n' 3 ((cs.drop 3).take (Tryd.prog.cellsOf 3)) = ys[3]? := hfld 3 _ rfl
  have e4 : DataW.trod enc Tryd.prog W 0 (fun _ => true) true n' 4 ((cs.drop 4).take (Tryd.prog.cellsOf 4)) = ys[4]? := hfld 4 _ rfl
  match cs, hsz, ys, hyl with
  | [c0, c1, c2, c3, c4], _, [y0, y1, y2, y3, y4], _ =>
    simp only [cellsI, cellsBo, List.drop_zero, List.drop_succ_cons, List.take_succ_cons, List.take_zero, List.getElem?_cons_zero, List.getElem?_cons_succ] at e0 e1 e2 e3 e4
    obtain ⟨x0, q0, _, _⟩ := DataW.trod_int Tryd.underlying3 e0
    obtain ⟨x1, q1, _, _⟩ := DataW.trod_int Tryd.underlying3 e1
    obtain ⟨x2, q2, _⟩ := DataW.trod_bool Tryd.underlying4 e2
    obtain ⟨x3, q3, _, _⟩ := DataW.trod_int Tryd.underlying3 e3
    obtain ⟨x4, q4, _⟩ := DataW.trod_bool Tryd.underlying4 e4
    simp only [List.cons.injEq, and_true] at q0 q1 q2 q3 q4
    subst q0 q1 q2 q3 q4
    exact ⟨⟨x0, x1, x2, x3, x4⟩, rfl⟩
end
def exC : Cm := ⟨7, 0, true, 1, ⟨#[98, 97, 110, 107]⟩, ⟨#[55, 47, 112, 97, 121, 47, 117, 110, 100, 111]⟩⟩
def exL : List UInt8 := [115, 101, 110, 100, 32, 55, 32, 48, 32, 117, 110, 100, 111, 32, 49, 32, 98, 97, 110, 107, 32, 55, 47, 112, 97, 121, 47, 117, 110, 100, 111]
theorem dec1 (n : Nat) (h : n < 10) : decDigits n = [UInt8.ofNat (48 + n)] := Go.Lib.decDigits_one h
theorem ex_good : Good exC := ⟨by decide, by decide, by decide, by decide +kernel, 7, [112, 97, 121], rfl, [55], ⟨(dec1 7 (by omega)).symm, by decide⟩, by decide +kernel, rfl⟩
theorem ex_line : lineL exC = exL := by
  have h7 : dg 7 = [55] := dec1 7 (by omega)
  have h0 : dg 0 = [48] := dec1 0 (by omega)
  have h1 : dg 1 = [49] := dec1 1 (by omega)
  unfold lineL exC
  simp only
  rw [h7, h0, h1]
  rfl
theorem ex_read (w : World) (hG : Gl w) : Calls Tryd.prog 12 #[.string ⟨#[115, 101, 110, 100, 32, 55, 32, 48, 32, 117, 110, 100, 111, 32, 49, 32, 98, 97, 110, 107, 32, 55, 47, 112, 97, 121, 47, 117, 110, 100, 111]⟩] w fun e w' => e = .returned (.tuple #[.agg #[.int .i64 7, .int .i64 0, .bool true, .int .i64 1, .string ⟨#[98, 97, 110, 107]⟩, .string ⟨#[55, 47, 112, 97, 121, 47, 117, 110, 100, 111]⟩], .bool true]) ∧ Below w.heap.size w w' := by
  refine Calls.mono (readCommand_any exL w hG (by decide)) ?_
  rintro e w' ⟨d, ok, rfl, hI, hb⟩
  rw [← ex_line] at hI
  obtain ⟨rfl, rfl⟩ := cmd_self ex_good hI
  exact ⟨rfl, hb⟩
theorem ex_told (w : World) (hG : Gl w) : Calls Tryd.prog 10 #[.agg #[.int .i64 7, .int .i64 0, .bool true, .int .i64 1, .string ⟨#[98, 97, 110, 107]⟩, .string ⟨#[55, 47, 112, 97, 121, 47, 117, 110, 100, 111]⟩]] w fun e w' => e = .returned (.string ⟨#[115, 101, 110, 100, 32, 55, 32, 48, 32, 117, 110, 100, 111, 32, 49, 32, 98, 97, 110, 107, 32, 55, 47, 112, 97, 121, 47, 117, 110, 100, 111]⟩) ∧ Below w.heap.size w w' := by
  refine Calls.mono (commandLine_any exC w hG (by decide) (by decide)) ?_
  rintro e w' ⟨rfl, hb⟩
  have e1 : lnC exC = exL := by unfold lnC; rw [good_is ex_good, ← ex_line]; rfl
  rw [e1]
  exact ⟨rfl, hb⟩
set_option maxRecDepth 100000 in
set_option maxHeartbeats 4000000 in
theorem awake_any (w : World) (hG : Gl w) : Calls Tryd.prog 5 #[] w fun e w' => e = .returned (.bool true) ∧ Below w.heap.size w w' := by
  have HR := Lib.hid (fun u (hu : Below w.heap.size w u) => ex_read u (hG.on hu))
  have HT := Lib.hid (fun u (hu : Below w.heap.size w u) => ex_told u (hG.on hu))
  have HB0 := Lib.hid ((Below.refl w.heap.size w).alloc (Nat.le_refl _) (.cells #[.int .i64 7, .int .i64 0, .bool true, .int .i64 1, .string ⟨#[98, 97, 110, 107]⟩, .string ⟨#[55, 47, 112, 97, 121, 47, 117, 110, 100, 111]⟩] 23))
  have HX := Lib.hid (Box.new w 23 #[.int .i64 7, .int .i64 0, .bool true, .int .i64 1, .string ⟨#[98, 97, 110, 107]⟩, .string ⟨#[55, 47, 112, 97, 121, 47, 117, 110, 100, 111]⟩])
  clear hG
  go_enter Tryd.func5, Tryd.ntmps5
  go_wp2_with (first
    | (go_at_call 12; (with_reducible refine (HR.out _ HB0.out).mono ?_); rintro e w1 ⟨rfl, hb1⟩; have HB1 := Lib.hid (HB0.out.trans (hb1.mono (by simp))); have bb := HX.out.below hb1 (by simp); have HX1 := Lib.hid bb; have c0 := bb.cell 0; have c1 := bb.cell 1; have c2 := bb.cell 2; have c3 := bb.cell 3; have c4 := bb.cell 4; have c5 := bb.cell 5; have hlt := bb.lt; clear hb1 bb)
    | (go_at_call 10; (with_reducible refine (HT.out _ (HB1.out.alloc HB1.out.size _)).mono ?_); rintro e w2 ⟨rfl, hb2⟩; have HB2 := Lib.hid ((HB1.out.alloc HB1.out.size _).trans (hb2.mono (by simp; have := HB1.out.size; omega))); have bb := (HX1.out.alloc _).below hb2 (by simp; omega); have d0 := bb.cell 0; have d1 := bb.cell 1; have d2 := bb.cell 2; have d3 := bb.cell 3; have d4 := bb.cell 4; have d5 := bb.cell 5; have b2 := (Box.new w1 23 #[.int .i64 7, .int .i64 0, .bool true, .int .i64 1, .string ⟨#[98, 97, 110, 107]⟩, .string ⟨#[55, 47, 112, 97, 121, 47, 117, 110, 100, 111]⟩]).below hb2 (by simp); have x0 := b2.cell 0; have x1 := b2.cell 1; have x2 := b2.cell 2; have x3 := b2.cell 3; have x4 := b2.cell 4; have x5 := b2.cell 5; clear hb2 bb b2))
  go_ret
  exact ⟨rfl, HB2.out⟩
end Go.Proofs.YtllpjfbcjcnpcaaDoor.Wi
