/-
  What the statement's do answers, where a file is put.
  Conditions: at most 256 files; acts that are short.
-/
import Derived.Test.YthfekmmcdfkigaaStoDoc2
namespace Go.Proofs.Ythfekmmcdfkigaa
open Go.RowKit

theorem str_app (x y : List UInt8) : str x ++ str y = str (x ++ y) := by
  apply ByteArray.ext
  unfold str
  simp
theorem str_bytes (l : List UInt8) : (⟨l.toArray⟩ : ByteArray) = str l := rfl
theorem str_nil : (⟨#[]⟩ : ByteArray) = str [] := rfl

section
variable (A : Option Addr) (fs : List Fl) (c : Nat) (cap : Int) (a : ActD) (w : World)
set_option maxHeartbeats 1000000 in
set_option maxRecDepth 100000 in
theorem do_app_new (h : Fils w w.heap.size A fs) (hn : fs.length ≤ 256) (hc : fs.length ≤ c) {k : Nat} (hp : Pos fs a.s.data.toList k false) {B : Nat} (hok : a.Ok w B) (hB : B ≤ w.heap.size) (hs : a.s.size ≤ 100) (h1 : a.kind ≤ 1) (hg : nameB a.s.data.toList = true) (hf : fs.length < 256) (hu : usedF fs ≤ 16777216) (hcap0 : 0 ≤ cap) (hcap : cap ≤ 16777216) (hbl : a.b.length ≤ 60) (hsp : ¬ cap - (usedF fs : Int) < (a.b.length : Int)) :
    Calls Try.prog 12 #[.slice A fs.length c, .bool false, .int .i64 cap, .agg #[.int .i64 a.kind, .int .i64 a.n, .string a.s, .slice a.ba a.b.length a.bc, .slice a.ka a.ks.length a.kc]] w (DoIs w A c fs (putBy Fl.name { newF a.s.data.toList with bs := a.b } fs) false 0) := by
  have z6 : (a.kind == 6) = false := by simp; omega
  have z5 : (a.kind == 5) = false := by simp; omega
  have zl : decide (a.kind ≤ 1) = true := by simpa using h1
  have hb1 := fun o => (Below.refl w.heap.size w).alloc (Nat.le_refl _) o
  have HFd := Lib.hid (fun o => rfind_at A fs c a.s k false (w.alloc o) ((h.below (hb1 o)).more (by simp)) (by omega) hp)
  have HG : Hid (∀ W, Calls Try.prog 22 #[.string a.s] W fun e w' => e = .returned (.bool true) ∧ W = w') := Lib.hid (fun W => by have := rgood_any a.s W (by omega); rw [hg] at this; exact this)
  have zf : decide (256 ≤ (fs.length : Int)) = false := by simp; omega
  have HFil := Lib.hid h
  have zs : decide (cap - (usedF fs : Int) < (a.b.length : Int)) = false := by simpa using hsp
  have hw1 : IntKind.i64.wrap (cap - (usedF fs : Int)) = cap - (usedF fs : Int) := IntWalk.i64_in _ (by omega)
  have HBy := Lib.hid (hok.byt)
  clear hg hp h hok
  go_enter Try.func12, Try.ntmps12
  go_wp2_with fail
  refine (HFd.out _).mono ?_
  rintro e V ⟨rfl, m, hV⟩
  have hbV : Below w.heap.size w V := by rw [hV]; exact below_drewN (hb1 _) m
  have hbx : Box V w.heap.size 31 #[.int .i64 a.kind, .int .i64 a.n, .string a.s, .slice a.ba a.b.length a.bc, .slice a.ka a.ks.length a.kc] := by rw [hV]; exact (Box.new w _ _).drewN m
  have f0 : V.cell? ⟨w.heap.size, 0, none⟩ = some (.int .i64 a.kind) := hbx.cell 0
  have f1 : V.cell? ⟨w.heap.size, 1, none⟩ = some (.int .i64 a.n) := hbx.cell 1
  have f2 : V.cell? ⟨w.heap.size, 2, none⟩ = some (.string a.s) := hbx.cell 2
  have f3 : V.cell? ⟨w.heap.size, 3, none⟩ = some (.slice a.ba a.b.length a.bc) := hbx.cell 3
  have hlt := hbx.lt
  clear hV HFd hbx
  have HU : Hid (∀ m, Calls Try.prog 16 #[.slice A fs.length c] (V.drewN m) fun e w' => e = .returned (.int .i64 (usedF fs : Int)) ∧ w' = V.drewN m) := Lib.hid (fun m => (rused_any A fs c (V.drewN m) ((HFil.out.below (below_drewN hbV m)).more hbV.size) (by omega) (by omega)).mono fun e w' ⟨h1, h2⟩ => ⟨h1, h2.symm⟩)
  go_wp2_with (go_at_call 22; (with_reducible refine (HG.out _).mono ?_); rintro e w' ⟨rfl, rfl⟩)
  go_quiet ((go_at_call 16; exact Calls.quiet_of_same (HU.out _)))
  rename_i nq
  have hbD := below_drewN hbV nq
  have f2' : (V.drewN nq).cell? ⟨w.heap.size, 2, none⟩ = some (.string a.s) := f2
  have f3' : (V.drewN nq).cell? ⟨w.heap.size, 3, none⟩ = some (.slice a.ba a.b.length a.bc) := f3
  have hlt' : w.heap.size < (V.drewN nq).heap.size := hlt
  generalize V.drewN nq = U at hbD f2' f3' hlt' ⊢
  have tx := fun o => ((HBy.out.below ((hbD.alloc hbD.size o).mono hB))).text (P := Try.prog) 28 5 9 Try.underlying28 Try.underlying5 Try.underlying9 a.bc
  have hnn : ¬ 9223372036854775807 < (ByteArray.mk #[]).size + (ByteArray.mk a.b.toArray).size := by simp [ByteArray.size]; omega
  clear HU f0 f1 f2 f3
  have hcat : (ByteArray.mk #[] ++ ByteArray.mk a.b.toArray) = str a.b := by rw [str_nil, str_bytes, str_app]; rfl
  have HW := Lib.hid (fun W (hW : Below w.heap.size w W) => rwith_any A fs c { newF a.s.data.toList with bs := a.b } W ((HFil.out.below hW).more hW.size) (by omega) hc)
  have Hcat := Lib.hid hcat
  clear hcat
  go_wp2_with fail
  rw [Hcat.out]
  refine (HW.out _ (hbD.alloc hbD.size _)).mono ?_
  rintro e W2 ⟨v, rfl, hrow, hb2⟩
  clear tx hnn
  go_wp2
  go_ret3
  exact do_new hrow (hbD.alloc hbD.size _) hb2 rfl
set_option maxHeartbeats 1000000 in
set_option maxRecDepth 100000 in
theorem do_app_old (h : Fils w w.heap.size A fs) (hn : fs.length ≤ 256) (hc : fs.length ≤ c) {k : Nat} (hp : Pos fs a.s.data.toList k true) (hk : k < fs.length) {q : Fl} (hq : fs[k] = q) (hqb : q.bs.length ≤ 16777216) {B : Nat} (hok : a.Ok w B) (hB : B ≤ w.heap.size) (hs : a.s.size ≤ 100) (h1 : a.kind ≤ 1) (hg : nameB a.s.data.toList = true) (hu : usedF fs ≤ 16777216) (hcap0 : 0 ≤ cap) (hcap : cap ≤ 16777216) (hbl : a.b.length ≤ 60) (hsp : ¬ cap - (usedF fs : Int) < (a.b.length : Int)) :
    Calls Try.prog 12 #[.slice A fs.length c, .bool false, .int .i64 cap, .agg #[.int .i64 a.kind, .int .i64 a.n, .string a.s, .slice a.ba a.b.length a.bc, .slice a.ka a.ks.length a.kc]] w (DoIs w A c fs (putBy Fl.name { q with bs := q.bs ++ a.b } fs) false 0) := by
  have z6 : (a.kind == 6) = false := by simp; omega
  have z5 : (a.kind == 5) = false := by simp; omega
  have zl : decide (a.kind ≤ 1) = true := by simpa using h1
  have hb1 := fun o => (Below.refl w.heap.size w).alloc (Nat.le_refl _) o
  have HFd := Lib.hid (fun o => rfind_at A fs c a.s k true (w.alloc o) ((h.below (hb1 o)).more (by simp)) (by omega) hp)
  have HG : Hid (∀ W, Calls Try.prog 22 #[.string a.s] W fun e w' => e = .returned (.bool true) ∧ W = w') := Lib.hid (fun W => by have := rgood_any a.s W (by omega); rw [hg] at this; exact this)
  have HFil := Lib.hid h
  have zs : decide (cap - (usedF fs : Int) < (a.b.length : Int)) = false := by simpa using hsp
  have hw1 : IntKind.i64.wrap (cap - (usedF fs : Int)) = cap - (usedF fs : Int) := IntWalk.i64_in _ (by omega)
  have HBy := Lib.hid (hok.byt)
  have Hq := Lib.hid hq
  clear hg hp h hok hq
  go_enter Try.func12, Try.ntmps12
  go_wp2_with fail
  refine (HFd.out _).mono ?_
  rintro e V ⟨rfl, m, hV⟩
  have hbV : Below w.heap.size w V := by rw [hV]; exact below_drewN (hb1 _) m
  have hbx : Box V w.heap.size 31 #[.int .i64 a.kind, .int .i64 a.n, .string a.s, .slice a.ba a.b.length a.bc, .slice a.ka a.ks.length a.kc] := by rw [hV]; exact (Box.new w _ _).drewN m
  have f0 : V.cell? ⟨w.heap.size, 0, none⟩ = some (.int .i64 a.kind) := hbx.cell 0
  have f1 : V.cell? ⟨w.heap.size, 1, none⟩ = some (.int .i64 a.n) := hbx.cell 1
  have f2 : V.cell? ⟨w.heap.size, 2, none⟩ = some (.string a.s) := hbx.cell 2
  have f3 : V.cell? ⟨w.heap.size, 3, none⟩ = some (.slice a.ba a.b.length a.bc) := hbx.cell 3
  have hlt := hbx.lt
  clear hV HFd hbx
  have HU : Hid (∀ m, Calls Try.prog 16 #[.slice A fs.length c] (V.drewN m) fun e w' => e = .returned (.int .i64 (usedF fs : Int)) ∧ w' = V.drewN m) := Lib.hid (fun m => (rused_any A fs c (V.drewN m) ((HFil.out.below (below_drewN hbV m)).more hbV.size) (by omega) (by omega)).mono fun e w' ⟨h1, h2⟩ => ⟨h1, h2.symm⟩)
  obtain ⟨bb, oo, rfl, hbl', c0, c1, c2, c3⟩ := (HFil.out.below hbV).four hk
  have hbV2 : bb < V.heap.size := Nat.lt_of_lt_of_le hbl' hbV.size
  rw [Hq.out] at c0 c1 c2 c3
  go_wp2_with (go_at_call 22; (with_reducible refine (HG.out _).mono ?_); rintro e w' ⟨rfl, rfl⟩)
  go_quiet ((go_at_call 16; exact Calls.quiet_of_same (HU.out _)))
  rename_i nq
  have hbD := below_drewN hbV nq
  have f2' : (V.drewN nq).cell? ⟨w.heap.size, 2, none⟩ = some (.string a.s) := f2
  have f3' : (V.drewN nq).cell? ⟨w.heap.size, 3, none⟩ = some (.slice a.ba a.b.length a.bc) := f3
  have d0 : (V.drewN nq).cell? ⟨bb, oo + k * 4, none⟩ = some (.string (str q.name)) := c0
  have d1 : (V.drewN nq).cell? ⟨bb, oo + k * 4 + 1, none⟩ = some (.string (str q.bs)) := c1
  have d2 : (V.drewN nq).cell? ⟨bb, oo + k * 4 + 2, none⟩ = some (.int .i64 (q.safe : Int)) := c2
  have d3 : (V.drewN nq).cell? ⟨bb, oo + k * 4 + 3, none⟩ = some (.bool q.stays) := c3
  have hlt' : w.heap.size < (V.drewN nq).heap.size := hlt
  have hbV3 : bb < (V.drewN nq).heap.size := hbV2
  generalize V.drewN nq = U at hbD f2' f3' hlt' hbV3 d0 d1 d2 d3 ⊢
  have tx := fun o => ((HBy.out.below ((hbD.alloc hbD.size o).mono hB))).text (P := Try.prog) 28 5 9 Try.underlying28 Try.underlying5 Try.underlying9 a.bc
  have hnn : ¬ 9223372036854775807 < (str q.bs).size + (ByteArray.mk a.b.toArray).size := by rw [str_bytes, str_size, str_size]; omega
  have hcat : (str q.bs ++ ByteArray.mk a.b.toArray) = str (q.bs ++ a.b) := by rw [str_bytes, str_app]
  have HW := Lib.hid (fun W (hW : Below w.heap.size w W) => rwith_any (some ⟨bb, oo, none⟩) fs c { q with bs := q.bs ++ a.b } W ((HFil.out.below hW).more hW.size) (by omega) hc)
  have Hcat := Lib.hid hcat
  clear HU f0 f1 f2 f3 c0 c1 c2 c3 hcat
  go_wp2_with fail
  rw [Hcat.out]
  refine (HW.out _ (hbD.alloc hbD.size _)).mono ?_
  rintro e W2 ⟨v, rfl, hrow, hb2⟩
  clear tx hnn
  go_wp2
  go_ret3
  exact do_new hrow (hbD.alloc hbD.size _) hb2 rfl
set_option maxHeartbeats 1000000 in
set_option maxRecDepth 100000 in
theorem do_sync (h : Fils w w.heap.size A fs) (hn : fs.length ≤ 256) (hc : fs.length ≤ c) {k : Nat} (hp : Pos fs a.s.data.toList k true) (hk : k < fs.length) {q : Fl} (hq : fs[k] = q) (h2 : a.kind = 2) :
    Calls Try.prog 12 #[.slice A fs.length c, .bool false, .int .i64 cap, .agg #[.int .i64 a.kind, .int .i64 a.n, .string a.s, .slice a.ba a.b.length a.bc, .slice a.ka a.ks.length a.kc]] w (DoIs w A c fs (putBy Fl.name { q with safe := q.bs.length, stays := true } fs) false 0) := by
  have z6 : (a.kind == 6) = false := by simp; omega
  have z5 : (a.kind == 5) = false := by simp; omega
  have zl : decide (a.kind ≤ 1) = false := by simp; omega
  have z2 : (a.kind == 2) = true := by simpa using h2
  have hb1 := fun o => (Below.refl w.heap.size w).alloc (Nat.le_refl _) o
  have HFd := Lib.hid (fun o => rfind_at A fs c a.s k true (w.alloc o) ((h.below (hb1 o)).more (by simp)) (by omega) hp)
  have HFil := Lib.hid h
  have Hq := Lib.hid hq
  clear hp h h2 hq
  go_enter Try.func12, Try.ntmps12
  go_wp2_with fail
  refine (HFd.out _).mono ?_
  rintro e V ⟨rfl, m, hV⟩
  have hbV : Below w.heap.size w V := by rw [hV]; exact below_drewN (hb1 _) m
  have hbx : Box V w.heap.size 31 #[.int .i64 a.kind, .int .i64 a.n, .string a.s, .slice a.ba a.b.length a.bc, .slice a.ka a.ks.length a.kc] := by rw [hV]; exact (Box.new w _ _).drewN m
  have f0 : V.cell? ⟨w.heap.size, 0, none⟩ = some (.int .i64 a.kind) := hbx.cell 0
  have f1 : V.cell? ⟨w.heap.size, 1, none⟩ = some (.int .i64 a.n) := hbx.cell 1
  have f2 : V.cell? ⟨w.heap.size, 2, none⟩ = some (.string a.s) := hbx.cell 2
  have f3 : V.cell? ⟨w.heap.size, 3, none⟩ = some (.slice a.ba a.b.length a.bc) := hbx.cell 3
  have hlt := hbx.lt
  clear hV HFd hbx
  obtain ⟨bb, oo, rfl, hbl', c0, c1, c2, c3⟩ := (HFil.out.below hbV).four hk
  have hbV2 : bb < V.heap.size := Nat.lt_of_lt_of_le hbl' hbV.size
  rw [Hq.out] at c0 c1 c2 c3
  have hsz : ((str q.bs).size : Int) = (q.bs.length : Int) := by rw [str_size]
  have HW := Lib.hid (fun W (hW : Below w.heap.size w W) => rwith_any (some ⟨bb, oo, none⟩) fs c { q with safe := q.bs.length, stays := true } W ((HFil.out.below hW).more hW.size) (by omega) hc)
  clear f1 f2 f3
  go_wp2_with fail
  refine (HW.out _ (hbV.alloc hbV.size _)).mono ?_
  rintro e W2 ⟨v, rfl, hrow, hb2⟩
  go_wp2
  go_ret3
  exact do_new hrow (hbV.alloc hbV.size _) hb2 rfl
set_option maxHeartbeats 1000000 in
set_option maxRecDepth 100000 in
theorem do_trunc (h : Fils w w.heap.size A fs) (hn : fs.length ≤ 256) (hc : fs.length ≤ c) {k : Nat} (hp : Pos fs a.s.data.toList k true) (hk : k < fs.length) {q : Fl} (hq : fs[k] = q) (hqb : q.bs.length ≤ 16777216) (h3 : a.kind = 3) {n : Nat} (hn0 : a.n = (n : Int)) (hnl : n ≤ q.bs.length) :
    Calls Try.prog 12 #[.slice A fs.length c, .bool false, .int .i64 cap, .agg #[.int .i64 a.kind, .int .i64 a.n, .string a.s, .slice a.ba a.b.length a.bc, .slice a.ka a.ks.length a.kc]] w (DoIs w A c fs (putBy Fl.name { q with bs := q.bs.take n, safe := min q.safe n } fs) false 0) := by
  have z6 : (a.kind == 6) = false := by simp; omega
  have z5 : (a.kind == 5) = false := by simp; omega
  have zl : decide (a.kind ≤ 1) = false := by simp; omega
  have z2 : (a.kind == 2) = false := by simp; omega
  have z3 : (a.kind == 3) = true := by simpa using h3
  have hb1 := fun o => (Below.refl w.heap.size w).alloc (Nat.le_refl _) o
  have HFd := Lib.hid (fun o => rfind_at A fs c a.s k true (w.alloc o) ((h.below (hb1 o)).more (by simp)) (by omega) hp)
  have HFil := Lib.hid h
  have Hq := Lib.hid hq
  have Hn0 := Lib.hid hn0
  have hn1 : 0 ≤ a.n := by omega
  have hn2 : ¬ a.n < 0 := by omega
  clear hp h h3 hq hn0
  go_enter Try.func12, Try.ntmps12
  go_wp2_with fail
  refine (HFd.out _).mono ?_
  rintro e V ⟨rfl, m, hV⟩
  have hbV : Below w.heap.size w V := by rw [hV]; exact below_drewN (hb1 _) m
  have hbx : Box V w.heap.size 31 #[.int .i64 a.kind, .int .i64 a.n, .string a.s, .slice a.ba a.b.length a.bc, .slice a.ka a.ks.length a.kc] := by rw [hV]; exact (Box.new w _ _).drewN m
  have f0 : V.cell? ⟨w.heap.size, 0, none⟩ = some (.int .i64 a.kind) := hbx.cell 0
  have f1 : V.cell? ⟨w.heap.size, 1, none⟩ = some (.int .i64 a.n) := hbx.cell 1
  have f2 : V.cell? ⟨w.heap.size, 2, none⟩ = some (.string a.s) := hbx.cell 2
  have f3 : V.cell? ⟨w.heap.size, 3, none⟩ = some (.slice a.ba a.b.length a.bc) := hbx.cell 3
  have hlt := hbx.lt
  clear hV HFd hbx
  obtain ⟨bb, oo, rfl, hbl', c0, c1, c2, c3⟩ := (HFil.out.below hbV).four hk
  have hbV2 : bb < V.heap.size := Nat.lt_of_lt_of_le hbl' hbV.size
  rw [Hq.out] at c0 c1 c2 c3
  rw [Hn0.out] at f1
  have hcut := fun W => cut_str W q.bs n hnl
  have hsz : (str q.bs).size = q.bs.length := str_size _
  have hsn : n ≤ (str q.bs).size := by omega
  have hmin : min (q.safe : Int) (n : Int) = ((min q.safe n : Nat) : Int) := by omega
  have HW := Lib.hid (fun W (hW : Below w.heap.size w W) => rwith_any (some ⟨bb, oo, none⟩) fs c { q with bs := q.bs.take n, safe := min q.safe n } W ((HFil.out.below hW).more hW.size) (by omega) hc)
  have Hmin := Lib.hid hmin
  have hs24 : (str q.bs).size ≤ 16777216 := by omega
  clear f2 f3 hsz hmin hn1 hn2
  go_wp2_with fail
  rw [Hmin.out]
  refine (HW.out _ (hbV.alloc hbV.size _)).mono ?_
  rintro e W2 ⟨v, rfl, hrow, hb2⟩
  go_wp2
  go_ret3
  exact do_new hrow (hbV.alloc hbV.size _) hb2 rfl
end
end Go.Proofs.Ythfekmmcdfkigaa
