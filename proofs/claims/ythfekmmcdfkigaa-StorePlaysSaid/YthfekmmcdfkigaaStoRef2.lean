/-
  What the document's Without, With and Boot leave of files.
  Conditions: at most 300 files.
-/
import Derived.Test.YthfekmmcdfkigaaStoRef
import Derived.IntWalk
namespace Go.Proofs.Ythfekmmcdfkigaa
open Go.RowKit

/-- l[:k] -/
theorem cutF_to (W : World) (A : Option Addr) (n c k : Nat) (hk : k ≤ c) :
    (Instr.slice 27 (.slice A n c) none (some (.int .i64 (k : Int))) none).run Try.prog W = .ok (.slice A k c) W := by
  have ht' : Try.prog.underlying 27 = some (.slice (Try.prog.elem 27)) := by simp [Program.elem, Try.underlying27]
  have he : Try.prog.elem 27 = 44 := by simp [Program.elem, Try.underlying27]
  have hz : (Go.sizeOf 44).run Try.prog W = .ok 4 W := by kernel_rfl
  rw [run_slice_h W _ _ _ _ ht' .i64 _ (by omega) (by omega), he, hz]
  cases A <;> simp [Result.andThen, sliced, Addr.add]
/-- l[k:] -/
theorem cutF_from (W : World) (A : Option Addr) (n c k : Nat) (hk : k ≤ n) :
    (Instr.slice 27 (.slice A n c) (some (.int .i64 (k : Int))) none none).run Try.prog W = .ok (.slice (if c = k then A else A.map (·.add (k * 4))) (n - k) (c - k)) W := by
  have ht' : Try.prog.underlying 27 = some (.slice (Try.prog.elem 27)) := by simp [Program.elem, Try.underlying27]
  have he : Try.prog.elem 27 = 44 := by simp [Program.elem, Try.underlying27]
  have hz : (Go.sizeOf 44).run Try.prog W = .ok 4 W := by kernel_rfl
  rw [run_slice_l W _ _ _ _ ht' .i64 _ (by omega) (by omega), he, hz]
  simp [Result.andThen, sliced]
/-- a new row of files -/
def FilesAre (w : World) (fs : List Fl) (e : Ending) (w' : World) : Prop :=
  ∃ v, e = .returned v ∧ w'.ownsRow w.heap.size 44 4 v fs.length (cellsF fs) ∧ Below w.heap.size w w'

set_option maxHeartbeats 1000000 in
set_option maxRecDepth 100000 in
theorem rwithout_any (A : Option Addr) (fs : List Fl) (c k : Nat) (w : World) (h : Fils w w.heap.size A fs) (hn : fs.length ≤ 300) (hc : fs.length ≤ c) (hk : k < fs.length) :
    Calls Try.prog 28 #[.slice A fs.length c, .int .i64 (k : Int)] w (FilesAre w (fs.take k ++ fs.drop (k + 1))) := by
  obtain ⟨i0, hi0, hz0, hz1, hz2⟩ := info_parts info44
  obtain ⟨n, hnn⟩ : ∃ n, n = fs.length := ⟨_, rfl⟩
  have h1 := h.take k
  have h2 := h.drop (k := k + 1) hc
  have l1 : (fs.take k).length = k := by simp; omega
  have l2 : (fs.drop (k + 1)).length = n - (k + 1) := by simp [hnn]
  have l3 : (fs.take k ++ fs.drop (k + 1)).length = k + (n - (k + 1)) := by rw [List.length_append, l1, l2]
  have ec := cellsF_app (fs.take k) (fs.drop (k + 1))
  rw [← hnn] at hn hc hk ⊢
  unfold FilesAre
  rw [l3, ec]
  generalize fs.take k = a at h1 l1
  generalize fs.drop (k + 1) = d at h2 l2
  have cut1 := fun W => cutF_to W A n c k (by omega)
  have cut2 := fun W => cutF_from W A n c (k + 1) (by omega)
  generalize (if c = k + 1 then A else A.map (·.add ((k + 1) * 4))) = A2 at h2 cut2
  have L1 := Lib.hid l1
  have L2 := Lib.hid l2
  have hwr : IntKind.i64.wrap ((k : Int) + 1) = (k : Int) + 1 := IntWalk.i64_in _ (by omega)
  have hcast : (((k + 1 : Nat)) : Int) = (k : Int) + 1 := by omega
  rw [hcast] at cut2
  clear l1 l2 l3 ec h hnn hcast
  go_enter Try.func28, Try.ntmps28
  go_wp2
  go_region_held3 (fun w' => Below w.heap.size w w') (first | exact Below.refl _ _ | exact Below.drew (Below.refl _ _) | assumption | exact (Below.alloc (by assumption) (Below.size (by assumption)) _))
    (first
      | (refine step_append_fils _ rfl (.tmp 5) (.tmp 8) 27 rfl w.heap.size 44 i0 _ Try.underlying27 hi0 hz0 hz1 hz2 rfl _ 0 [] rfl (World.ownsRow_lit w.drew #[] 0 (Nat.le_refl _) (by decide) rfl) w.heap.size _ _ _ a rfl L1.out.symm (by exact h1.below (Below.alloc (Below.drew (Below.refl _ _)) (Nat.le_refl _) _)) (by rw [L1.out]; omega) (by simp) ?_; intro v2 w2 hown2 hg2 hat2; have hS2 : Below w.heap.size w w2 := ((Below.drew (Below.refl _ w)).alloc (Nat.le_refl _) _).grown hg2 (by simp) (fun j hj => ((World.ownsRow_lit (base := w.heap.size) (e := 44) (size := 4) w.drew #[] 0 (Nat.le_refl _) (by decide) rfl).lt j hj).1))
      | (refine step_append_fils _ rfl (.tmp 9) (.tmp 13) 27 rfl w.heap.size 44 i0 _ Try.underlying27 hi0 hz0 hz1 hz2 rfl _ (0 + a.length) _ rfl hown2 w.heap.size _ _ _ d rfl L2.out.symm (h2.below hS2) (by rw [L1.out, L2.out]; omega) hS2.size ?_; intro v3 w3 hown3 hg3 hat3; have hS3 : Below w.heap.size w w3 := hS2.grown hg3 hS2.size (fun j hj => (hown2.lt j hj).1)))
  all_goals
    have HO := Lib.hid hown3
    clear hown2 hown3 hg2 hg3 hat2 hat3 cut1 cut2 hS2
    go_wp2
    go_ret
    refine ⟨v3, rfl, ?_, hS3⟩
    have h := HO.out
    rw [L1.out, L2.out] at h
    simpa using h

theorem own_base4 {w : World} {base base' : Nat} {e : TypeId} {v : Value} {n : Nat} {xs : List Value} (h : w.ownsRow base e 4 v n xs) (hb : base' ≤ base) : w.ownsRow base' e 4 v n xs := by
  refine ⟨h.1, h.2.imp id ?_⟩
  rintro ⟨g, cap, cur, hv, hg, r⟩
  exact ⟨g, cap, cur, hv, by omega, r⟩
theorem Fils.one (w : World) (t : TypeId) (f : Fl) : Fils (w.alloc (.cells #[.string (str f.name), .string (str f.bs), .int .i64 (f.safe : Int), .bool f.stays] t)) (w.heap.size + 1) (some ⟨w.heap.size, 0, Option.none⟩) [f] := fun _ => by
  refine ⟨w.heap.size, 0, rfl, by omega, fun j v hv => ?_⟩
  rw [cell_of_row _ _ _ _ _ _ (heap_alloc_new w _)]
  simp only [cellsF, List.flatMap_cons, List.flatMap_nil, List.append_nil, fileC] at hv
  rw [Nat.zero_add]
  simpa using hv
theorem Fils.grown {w w' : World} {row : Option Nat} {B b : Nat} {fs : List Fl} (h : Fils w B (some ⟨b, 0, Option.none⟩) fs) (hg : w.grownBy w' row) (hb : b < w.heap.size) (hne : some b ≠ row) : Fils w' B (some ⟨b, 0, Option.none⟩) fs := fun hl => by
  obtain ⟨b', o, e, hlt, hc⟩ := h hl
  injection e with e
  injection e with e1 e2
  subst e1 e2
  exact ⟨b, 0, rfl, hlt, fun j v hv => (World.cell?_of_block (hg.block b hb hne)).trans (hc j v hv)⟩

set_option maxHeartbeats 4000000 in
set_option maxRecDepth 100000 in
theorem with_at (A : Option Addr) (n c k r : Nat) (a d : List Fl) (f : Fl) (bb : Bool) (W : World) (h1 : Fils W W.heap.size A a) (A2 : Option Addr) (h2 : Fils W W.heap.size A2 d) (hn : n ≤ 300) (hla : a.length = k) (hld : d.length = n - r) (hr : r ≤ n) (hkn : k ≤ n)
    (hcut1 : ∀ u, (Instr.slice 27 (.slice A n c) none (some (.int .i64 (k : Int))) none).run Try.prog u = .ok (.slice A k c) u)
    (hcut2 : ∀ u, (Instr.slice 27 (.slice A n c) (some (.int .i64 (r : Int))) none none).run Try.prog u = .ok (.slice A2 (n - r) (c - r)) u)
    (hfind : ∀ o : Obj, Calls Try.prog 26 #[.slice A n c, .string (str f.name)] (W.alloc o) fun e w' => e = .returned (.tuple #[.int .i64 (k : Int), .bool bb]) ∧ ∃ m, w' = (W.alloc o).drewN m)
    (hbb : (r : Int) = if bb then (k : Int) + 1 else (k : Int)) :
    Calls Try.prog 27 #[.slice A n c, .agg #[.string (str f.name), .string (str f.bs), .int .i64 (f.safe : Int), .bool f.stays]] W (FilesAre W (a ++ f :: d)) := by
  obtain ⟨i0, hi0, hz0, hz1, hz2⟩ := info_parts info44
  obtain ⟨s1, hs1⟩ : ∃ s, s = str f.name := ⟨_, rfl⟩
  obtain ⟨s2, hs2⟩ : ∃ s, s = str f.bs := ⟨_, rfl⟩
  obtain ⟨s3, hs3⟩ : ∃ s, s = f.safe := ⟨_, rfl⟩
  obtain ⟨s4, hs4⟩ : ∃ s, s = f.stays := ⟨_, rfl⟩
  have HF1 : Hid (∀ (u : World) (t : TypeId), Fils (u.alloc (.cells #[.string s1, .string s2, .int .i64 (s3 : Int), .bool s4] t)) (u.heap.size + 1) (some ⟨u.heap.size, 0, none⟩) [f]) := Lib.hid (fun u t => by rw [hs1, hs2, hs3, hs4]; exact Fils.one u t f)
  rw [← hs1] at hfind
  rw [← hs1, ← hs2, ← hs3, ← hs4]
  have Hf := Lib.hid hfind
  have La := Lib.hid hla
  have Ld := Lib.hid hld
  clear hs1 hs2 hs3 hs4 hfind hla hld
  rw [hbb] at hcut2
  clear hbb
  cases bb with
  | true =>
    simp only [if_true] at hcut2
    go_enter Try.func27, Try.ntmps27
    go_wp2_with fail
    refine (Hf.out _).mono ?_
    rintro e V ⟨rfl, m, hV⟩
    have hbx : Box V W.heap.size 44 #[.string s1, .string s2, .int .i64 (s3 : Int), .bool s4] := by rw [hV]; exact (Box.new W _ _).drewN m
    have hbV : Below W.heap.size W V := by rw [hV]; exact ⟨rfl, rfl, rfl, by simp [World.drewN], fun i hi => Below.heap_alloc W _ i hi⟩
    clear hV Hf
    go_wp2
    have hlt := hbx.lt
    have c0 : ∀ u, Below V.heap.size V u → u.cell? ⟨W.heap.size, 0, none⟩ = some (.string s1) := fun u hu => (hu.cell hlt).trans (hbx.cell 0)
    have c1 : ∀ u, Below V.heap.size V u → u.cell? ⟨W.heap.size, 1, none⟩ = some (.string s2) := fun u hu => (hu.cell hlt).trans (hbx.cell 1)
    have c2 : ∀ u, Below V.heap.size V u → u.cell? ⟨W.heap.size, 2, none⟩ = some (.int .i64 (s3 : Int)) := fun u hu => (hu.cell hlt).trans (hbx.cell 2)
    have c3 : ∀ u, Below V.heap.size V u → u.cell? ⟨W.heap.size, 3, none⟩ = some (.bool s4) := fun u hu => (hu.cell hlt).trans (hbx.cell 3)
    have g1 := (h1.below hbV).more hbV.size
    have g2 := (h2.below hbV).more hbV.size
    clear hbx
    have lit3 : ((V.alloc (.cells #[.string s1, .string s2, .int .i64 (s3 : Int), .bool s4] 44)).alloc (.cells #[] 44)).drew.ownsRow V.heap.size 44 4 (.slice (some ⟨V.heap.size + 1, 0, none⟩) 0 0) 0 [] := by
      have := World.ownsRow_lit (base := V.heap.size) (e := 44) (size := 4) (V.alloc (.cells #[.string s1, .string s2, .int .i64 (s3 : Int), .bool s4] 44)) #[] 0 (by simp) (by decide) rfl
      rw [show (V.alloc (.cells #[.string s1, .string s2, .int .i64 (s3 : Int), .bool s4] 44)).heap.size = V.heap.size + 1 by simp] at this
      exact this
    have bel3 : Below V.heap.size V ((V.alloc (.cells #[.string s1, .string s2, .int .i64 (s3 : Int), .bool s4] 44)).alloc (.cells #[] 44)).drew := (((Below.refl _ V).alloc (Nat.le_refl _) _).alloc (by simp) _).drew
    have fil3 : Fils ((V.alloc (.cells #[.string s1, .string s2, .int .i64 (s3 : Int), .bool s4] 44)).alloc (.cells #[] 44)).drew (V.heap.size + 1) (some ⟨V.heap.size, 0, none⟩) [f] := (HF1.out V 44).below ((Below.refl (V.heap.size + 1) (V.alloc (.cells #[.string s1, .string s2, .int .i64 (s3 : Int), .bool s4] 44))).alloc (by simp) (.cells #[] 44)).drew
    go_region_held3 (fun w' => Below V.heap.size V w') (first | exact Below.refl _ _ | exact Below.drew (Below.refl _ _) | assumption | exact (Below.alloc (by assumption) (Below.size (by assumption)) _))
      (first
        | (refine step_append_fils _ rfl (.tmp 19) (.tmp 22) 27 rfl V.heap.size 44 i0 _ Try.underlying27 hi0 hz0 hz1 hz2 rfl _ 0 [] rfl (World.ownsRow_lit (base := V.heap.size) (e := 44) (size := 4) V.drew #[] 0 (Nat.le_refl _) (by decide) rfl) _ _ _ _ a rfl La.out.symm (g1.below ((Below.drew (Below.refl _ V)).alloc (Nat.le_refl _) _)) (by rw [La.out]; omega) (by simp) ?_; intro v2 w2 hown2 hg2 hat2; have hS2 : Below V.heap.size V w2 := ((Below.drew (Below.refl _ V)).alloc (Nat.le_refl _) _).grown hg2 (by simp) (fun j hj => ((World.ownsRow_lit (base := V.heap.size) (e := 44) (size := 4) V.drew #[] 0 (Nat.le_refl _) (by decide) rfl).lt j hj).1))
        | (refine step_append_fils _ rfl (.tmp 19) (.tmp 22) 27 rfl V.heap.size 44 i0 _ Try.underlying27 hi0 hz0 hz1 hz2 rfl _ 0 [] rfl ((World.ownsRow_lit (base := V.heap.size) (e := 44) (size := 4) V.drew #[] 0 (Nat.le_refl _) (by decide) rfl).alloc (.cells #[.string s1, .string s2, .int .i64 (s3 : Int), .bool s4] 44)) _ _ _ _ a rfl La.out.symm (g1.below (((Below.drew (Below.refl _ V)).alloc (Nat.le_refl _) _).alloc (by simp) _)) (by rw [La.out]; omega) (by simp; omega) ?_; intro v2 w2 hown2 hg2 hat2; have hS2 : Below V.heap.size V w2 := (((Below.drew (Below.refl _ V)).alloc (Nat.le_refl _) _).alloc (by simp) _).grown hg2 (by simp; omega) (fun j hj => ((World.ownsRow_lit (base := V.heap.size) (e := 44) (size := 4) V.drew #[] 0 (Nat.le_refl _) (by decide) rfl).lt j hj).1); have hF2 := Fils.grown (row := some V.heap.size) (HF1.out (V.drew.alloc (.cells #[] 44)) 44) hg2 (by simp) (fun e => (by have e' := Option.some.inj e; simp at e')); rw [show (V.drew.alloc (.cells #[] 44)).heap.size = V.heap.size + 1 from (by simp)] at hF2)
        | (refine step_append_fils _ rfl (.tmp 19) (.tmp 22) 27 rfl V.heap.size 44 i0 _ Try.underlying27 hi0 hz0 hz1 hz2 rfl _ 0 [] rfl lit3 _ _ _ _ a rfl La.out.symm (g1.below bel3) (by rw [La.out]; omega) bel3.size ?_; intro v2 w2 hown2 hg2 hat2; have hS2 : Below V.heap.size V w2 := bel3.grown hg2 bel3.size (fun j hj => (lit3.lt j hj).1); have hF2 := Fils.grown (row := some (V.heap.size + 1)) fil3 hg2 (by simp; omega) (fun e => (by have e' := Option.some.inj e; omega)))
        | (refine step_append_fils _ rfl (.tmp 23) (.tmp 25) 27 rfl V.heap.size 44 i0 _ Try.underlying27 hi0 hz0 hz1 hz2 rfl _ (0 + a.length) _ rfl (hown2.alloc _) _ _ _ _ [f] rfl rfl (HF1.out w2 44) (by have := La.out; simp only [List.length_cons, List.length_nil]; omega) (Nat.le_trans hS2.size (by simp)) ?_; intro v3 w3 hown3 hg3 hat3; have hS3 : Below V.heap.size V w3 := (hS2.alloc hS2.size _).grown hg3 (Nat.le_trans hS2.size (by simp)) (fun j hj => (hown2.lt j hj).1))
        | (refine step_append_fils _ rfl (.tmp 23) (.tmp 25) 27 rfl V.heap.size 44 i0 _ Try.underlying27 hi0 hz0 hz1 hz2 rfl _ (0 + a.length) _ rfl hown2 _ _ _ _ [f] rfl rfl hF2 (by have := La.out; simp only [List.length_cons, List.length_nil]; omega) hS2.size ?_; intro v3 w3 hown3 hg3 hat3; have hS3 : Below V.heap.size V w3 := hS2.grown hg3 hS2.size (fun j hj => (hown2.lt j hj).1))
        | (refine step_append_fils _ rfl (.tmp 26) (.tmp 29) 27 rfl V.heap.size 44 i0 _ Try.underlying27 hi0 hz0 hz1 hz2 rfl _ (0 + a.length + [f].length) _ rfl hown3 _ _ _ _ d rfl Ld.out.symm (g2.below hS3) (by have := La.out; have := Ld.out; simp only [List.length_cons, List.length_nil]; omega) hS3.size ?_; intro v4 w4 hown4 hg4 hat4; have hS4 : Below V.heap.size V w4 := hS3.grown hg4 hS3.size (fun j hj => (hown3.lt j hj).1)))
    all_goals
      have HO := Lib.hid hown4
      clear hown2 hown3 hown4 hg2 hg3 hg4 hat2 hat3 hat4 hcut1 hcut2 c0 c1 c2 c3
      go_wp2
      go_ret
      refine ⟨v4, rfl, ?_, hbV.trans (hS4.mono hbV.size)⟩
      have h := own_base4 HO.out hbV.size
      have e1 : (a ++ f :: d).length = 0 + a.length + [f].length + d.length := by simp; omega
      have e2 : cellsF (a ++ f :: d) = [] ++ cellsF a ++ cellsF [f] ++ cellsF d := by rw [show a ++ f :: d = a ++ [f] ++ d by simp, cellsF_app, cellsF_app]; rfl
      rw [e1, e2]
      exact h
  | false =>
    simp only [Bool.false_eq_true, if_false] at hcut2
    go_enter Try.func27, Try.ntmps27
    go_wp2_with fail
    refine (Hf.out _).mono ?_
    rintro e V ⟨rfl, m, hV⟩
    have hbx : Box V W.heap.size 44 #[.string s1, .string s2, .int .i64 (s3 : Int), .bool s4] := by rw [hV]; exact (Box.new W _ _).drewN m
    have hbV : Below W.heap.size W V := by rw [hV]; exact ⟨rfl, rfl, rfl, by simp [World.drewN], fun i hi => Below.heap_alloc W _ i hi⟩
    clear hV Hf
    go_wp2
    have hlt := hbx.lt
    have c0 : ∀ u, Below V.heap.size V u → u.cell? ⟨W.heap.size, 0, none⟩ = some (.string s1) := fun u hu => (hu.cell hlt).trans (hbx.cell 0)
    have c1 : ∀ u, Below V.heap.size V u → u.cell? ⟨W.heap.size, 1, none⟩ = some (.string s2) := fun u hu => (hu.cell hlt).trans (hbx.cell 1)
    have c2 : ∀ u, Below V.heap.size V u → u.cell? ⟨W.heap.size, 2, none⟩ = some (.int .i64 (s3 : Int)) := fun u hu => (hu.cell hlt).trans (hbx.cell 2)
    have c3 : ∀ u, Below V.heap.size V u → u.cell? ⟨W.heap.size, 3, none⟩ = some (.bool s4) := fun u hu => (hu.cell hlt).trans (hbx.cell 3)
    have g1 := (h1.below hbV).more hbV.size
    have g2 := (h2.below hbV).more hbV.size
    clear hbx
    have lit3 : ((V.alloc (.cells #[.string s1, .string s2, .int .i64 (s3 : Int), .bool s4] 44)).alloc (.cells #[] 44)).drew.ownsRow V.heap.size 44 4 (.slice (some ⟨V.heap.size + 1, 0, none⟩) 0 0) 0 [] := by
      have := World.ownsRow_lit (base := V.heap.size) (e := 44) (size := 4) (V.alloc (.cells #[.string s1, .string s2, .int .i64 (s3 : Int), .bool s4] 44)) #[] 0 (by simp) (by decide) rfl
      rw [show (V.alloc (.cells #[.string s1, .string s2, .int .i64 (s3 : Int), .bool s4] 44)).heap.size = V.heap.size + 1 by simp] at this
      exact this
    have bel3 : Below V.heap.size V ((V.alloc (.cells #[.string s1, .string s2, .int .i64 (s3 : Int), .bool s4] 44)).alloc (.cells #[] 44)).drew := (((Below.refl _ V).alloc (Nat.le_refl _) _).alloc (by simp) _).drew
    have fil3 : Fils ((V.alloc (.cells #[.string s1, .string s2, .int .i64 (s3 : Int), .bool s4] 44)).alloc (.cells #[] 44)).drew (V.heap.size + 1) (some ⟨V.heap.size, 0, none⟩) [f] := (HF1.out V 44).below ((Below.refl (V.heap.size + 1) (V.alloc (.cells #[.string s1, .string s2, .int .i64 (s3 : Int), .bool s4] 44))).alloc (by simp) (.cells #[] 44)).drew
    go_region_held3 (fun w' => Below V.heap.size V w') (first | exact Below.refl _ _ | exact Below.drew (Below.refl _ _) | assumption | exact (Below.alloc (by assumption) (Below.size (by assumption)) _))
      (first
        | (refine step_append_fils _ rfl (.tmp 19) (.tmp 22) 27 rfl V.heap.size 44 i0 _ Try.underlying27 hi0 hz0 hz1 hz2 rfl _ 0 [] rfl (World.ownsRow_lit (base := V.heap.size) (e := 44) (size := 4) V.drew #[] 0 (Nat.le_refl _) (by decide) rfl) _ _ _ _ a rfl La.out.symm (g1.below ((Below.drew (Below.refl _ V)).alloc (Nat.le_refl _) _)) (by rw [La.out]; omega) (by simp) ?_; intro v2 w2 hown2 hg2 hat2; have hS2 : Below V.heap.size V w2 := ((Below.drew (Below.refl _ V)).alloc (Nat.le_refl _) _).grown hg2 (by simp) (fun j hj => ((World.ownsRow_lit (base := V.heap.size) (e := 44) (size := 4) V.drew #[] 0 (Nat.le_refl _) (by decide) rfl).lt j hj).1))
        | (refine step_append_fils _ rfl (.tmp 19) (.tmp 22) 27 rfl V.heap.size 44 i0 _ Try.underlying27 hi0 hz0 hz1 hz2 rfl _ 0 [] rfl ((World.ownsRow_lit (base := V.heap.size) (e := 44) (size := 4) V.drew #[] 0 (Nat.le_refl _) (by decide) rfl).alloc (.cells #[.string s1, .string s2, .int .i64 (s3 : Int), .bool s4] 44)) _ _ _ _ a rfl La.out.symm (g1.below (((Below.drew (Below.refl _ V)).alloc (Nat.le_refl _) _).alloc (by simp) _)) (by rw [La.out]; omega) (by simp; omega) ?_; intro v2 w2 hown2 hg2 hat2; have hS2 : Below V.heap.size V w2 := (((Below.drew (Below.refl _ V)).alloc (Nat.le_refl _) _).alloc (by simp) _).grown hg2 (by simp; omega) (fun j hj => ((World.ownsRow_lit (base := V.heap.size) (e := 44) (size := 4) V.drew #[] 0 (Nat.le_refl _) (by decide) rfl).lt j hj).1); have hF2 := Fils.grown (row := some V.heap.size) (HF1.out (V.drew.alloc (.cells #[] 44)) 44) hg2 (by simp) (fun e => (by have e' := Option.some.inj e; simp at e')); rw [show (V.drew.alloc (.cells #[] 44)).heap.size = V.heap.size + 1 from (by simp)] at hF2)
        | (refine step_append_fils _ rfl (.tmp 19) (.tmp 22) 27 rfl V.heap.size 44 i0 _ Try.underlying27 hi0 hz0 hz1 hz2 rfl _ 0 [] rfl lit3 _ _ _ _ a rfl La.out.symm (g1.below bel3) (by rw [La.out]; omega) bel3.size ?_; intro v2 w2 hown2 hg2 hat2; have hS2 : Below V.heap.size V w2 := bel3.grown hg2 bel3.size (fun j hj => (lit3.lt j hj).1); have hF2 := Fils.grown (row := some (V.heap.size + 1)) fil3 hg2 (by simp; omega) (fun e => (by have e' := Option.some.inj e; omega)))
        | (refine step_append_fils _ rfl (.tmp 23) (.tmp 25) 27 rfl V.heap.size 44 i0 _ Try.underlying27 hi0 hz0 hz1 hz2 rfl _ (0 + a.length) _ rfl (hown2.alloc _) _ _ _ _ [f] rfl rfl (HF1.out w2 44) (by have := La.out; simp only [List.length_cons, List.length_nil]; omega) (Nat.le_trans hS2.size (by simp)) ?_; intro v3 w3 hown3 hg3 hat3; have hS3 : Below V.heap.size V w3 := (hS2.alloc hS2.size _).grown hg3 (Nat.le_trans hS2.size (by simp)) (fun j hj => (hown2.lt j hj).1))
        | (refine step_append_fils _ rfl (.tmp 23) (.tmp 25) 27 rfl V.heap.size 44 i0 _ Try.underlying27 hi0 hz0 hz1 hz2 rfl _ (0 + a.length) _ rfl hown2 _ _ _ _ [f] rfl rfl hF2 (by have := La.out; simp only [List.length_cons, List.length_nil]; omega) hS2.size ?_; intro v3 w3 hown3 hg3 hat3; have hS3 : Below V.heap.size V w3 := hS2.grown hg3 hS2.size (fun j hj => (hown2.lt j hj).1))
        | (refine step_append_fils _ rfl (.tmp 26) (.tmp 29) 27 rfl V.heap.size 44 i0 _ Try.underlying27 hi0 hz0 hz1 hz2 rfl _ (0 + a.length + [f].length) _ rfl hown3 _ _ _ _ d rfl Ld.out.symm (g2.below hS3) (by have := La.out; have := Ld.out; simp only [List.length_cons, List.length_nil]; omega) hS3.size ?_; intro v4 w4 hown4 hg4 hat4; have hS4 : Below V.heap.size V w4 := hS3.grown hg4 hS3.size (fun j hj => (hown3.lt j hj).1)))
    all_goals
      have HO := Lib.hid hown4
      clear hown2 hown3 hown4 hg2 hg3 hg4 hat2 hat3 hat4 hcut1 hcut2 c0 c1 c2 c3
      go_wp2
      go_ret
      refine ⟨v4, rfl, ?_, hbV.trans (hS4.mono hbV.size)⟩
      have h := own_base4 HO.out hbV.size
      have e1 : (a ++ f :: d).length = 0 + a.length + [f].length + d.length := by simp; omega
      have e2 : cellsF (a ++ f :: d) = [] ++ cellsF a ++ cellsF [f] ++ cellsF d := by rw [show a ++ f :: d = a ++ [f] ++ d by simp, cellsF_app, cellsF_app]; rfl
      rw [e1, e2]
      exact h

/-- With: the file at its name's place -/
theorem rwith_any (A : Option Addr) (fs : List Fl) (c : Nat) (f : Fl) (w : World) (h : Fils w w.heap.size A fs) (hn : fs.length ≤ 300) (hc : fs.length ≤ c) :
    Calls Try.prog 27 #[.slice A fs.length c, .agg #[.string (str f.name), .string (str f.bs), .int .i64 (f.safe : Int), .bool f.stays]] w (FilesAre w (putBy Fl.name f fs)) := by
  obtain ⟨k, b, hp⟩ := pos_ex fs f.name
  rw [pos_put hp rfl]
  have hle := hp.le
  obtain ⟨r, hr⟩ : ∃ r, r = if b then k + 1 else k := ⟨_, rfl⟩
  have hrn : r ≤ fs.length := by
    rw [hr]
    cases b with
    | true => obtain ⟨h1, _⟩ := hp.is rfl; simp; omega
    | false => simpa using hle
  rw [← hr]
  refine with_at A fs.length c k r (fs.take k) (fs.drop r) f b w (h.take k) _ (h.drop hc) hn (by simp; omega) (by simp) hrn hle (fun u => cutF_to u A _ c k (by omega)) (fun u => cutF_from u A _ c r hrn) (fun o => ?_) (by rw [hr]; cases b <;> simp)
  exact rfind_at A fs c (str f.name) k b _ ((h.below ((Below.refl _ w).alloc (Nat.le_refl _) o)).more (by simp)) hn hp

/-! ### Boot -/
def bootK (fs : List Fl) (ks : List Int) (k : Nat) : List Fl := bootF (fs.take k) ks
theorem bootK_next {fs : List Fl} {ks : List Int} {k : Nat} (h : k < fs.length) : bootK fs ks (k + 1) = bootK fs ks k ++ (keptF fs[k] (ks.getD k 0)).toList := by
  have h1 := bootTo_next fs ks h
  unfold bootTo at h1
  rw [← List.append_assoc] at h1
  exact List.append_cancel_right h1
theorem boot_len : ∀ (fs : List Fl) (k : List Int), (bootF fs k).length ≤ fs.length
  | [], _ => by simp [bootF]
  | q :: r, k => by
    have := boot_len r k.tail
    simp only [bootF, List.length_append, List.length_cons]
    have h1 : (keptF q (k.headD 0)).toList.length ≤ 1 := by cases keptF q (k.headD 0) <;> simp
    omega
end Go.Proofs.Ythfekmmcdfkigaa
