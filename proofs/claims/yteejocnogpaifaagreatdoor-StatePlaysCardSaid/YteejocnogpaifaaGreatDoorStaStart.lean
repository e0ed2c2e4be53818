/-
  What start of package state answers: a saga begins.
  Conditions: the state lies in a block and rows of its own; texts are of a moderate size.
-/
import Derived.Test.YteejocnogpaifaaGreatDoorMrg1
import Derived.Test.YteejocnogpaifaaGreatDoorStaDel
import Derived.Test.YteejocnogpaifaaGreatDoorStaGood3
import Derived.Test.YteejocnogpaifaaGreatDoorSagBegin
import Derived.Test.YteejocnogpaifaaGreatDoorCodGood
import Derived.Deep.RegionHeld3
import Derived.Maps.AppendAt
import Derived.Deep.DeepCutAuto
import Derived.BigQuiet
namespace Go.Proofs.YteejocnogpaifaaGreatDoor.Tt
open Go.RowKit
open Go.Proofs.YteejocnogpaifaaGreatDoor.El
open Go.Proofs.YteejocnogpaifaaGreatDoor.Df
open Go.Proofs.YteejocnogpaifaaGreatDoor.Bo (P Made ret_int ret_bool)
open Go.Proofs.YteejocnogpaifaaGreatDoor.Sa (Sg Cm beginS)
open Go.Proofs.YteejocnogpaifaaGreatDoor.Co (Ev Mod evc)

section
variable {P : Program}
theorem wp_append_at16 (w : World) {o : Oper} {a : Act} {K : Act → World → Prop} {Q : Exit → Act → World → Prop} (s x : Operand) (t : TypeId)
    (ho : o.op = .call { callee := .builtin .append, args := #[s, x], argTypes := #[t, t] })
    (base : Nat) (e : TypeId) (i : TypeInfo) (z : Value) (size bytes : Nat) (ht : P.underlying t = some (.slice e)) (hi : P.info? e = some i) (hz : i.zero = some z)
    (hsize : i.size = size) (hby : i.bytes = bytes) (hzs : z.cells.size = size) (hsz : 0 < size)
    (v : Value) (n : Nat) (xs : List Value) (hs : a.eval s = v) (hown : w.ownsRow base e size v n xs)
    (ad : Addr) (m c : Nat) (news : List Value) (hx : a.eval x = .slice (some ad) m c) (hl : news.length = m * size) (hnews : ∀ j u, news[j]? = some u → w.cell? (ad.add j) = some u) (h1 : ∀ u ∈ news, u.oneCell' = true)
    (h63 : n + m ≤ maxLen) (hbytes : (n + m) * bytes ≤ 140737488355328) (hbase : base ≤ w.heap.size)
    (h : ∀ v' w', w'.ownsRow base e size v' (n + m) (xs ++ news) → w.grownBy w' v.ownBlock → (v'.ownBlock = v.ownBlock ∨ v'.ownBlock = some w.heap.size) → K (a.put o.dst v') w') : o.wp P a w K Q := by
  obtain ⟨v', w', hr, h2, h3, _, h5⟩ := run_append_own_at (P := P) w base t o.type e i z size bytes ht hi hz hsize hby hzs hsz v n xs hown ad m c news hl hnews h1 h63 hbytes hbase
  unfold Oper.wp execOp
  simp only [ho, resolve, invoke, builtin, Sem.run_bind, Sem.run_pure, Result.andThen_ok, List.map_toArray, List.map_cons, List.map_nil, hs, hx, hr]
  exact h v' w' h2 h3 h5
theorem step_append_at16 (w : World) {ops : Array Oper} {o : Oper} {a : Act} {K : Act → World → Prop} {Q : Exit → Act → World → Prop} {E : Prop} (hgd : o.guard = none) (s x : Operand) (t : TypeId)
    (ho : o.op = .call { callee := .builtin .append, args := #[s, x], argTypes := #[t, t] })
    (base : Nat) (e : TypeId) (i : TypeInfo) (z : Value) (size bytes : Nat) (ht : P.underlying t = some (.slice e)) (hi : P.info? e = some i) (hz : i.zero = some z)
    (hsize : i.size = size) (hby : i.bytes = bytes) (hzs : z.cells.size = size) (hsz : 0 < size)
    (v : Value) (n : Nat) (xs : List Value) (hs : a.eval s = v) (hown : w.ownsRow base e size v n xs)
    (ad : Addr) (m c : Nat) (news : List Value) (hx : a.eval x = .slice (some ad) m c) (hl : news.length = m * size) (hnews : ∀ j u, news[j]? = some u → w.cell? (ad.add j) = some u) (h1 : ∀ u ∈ news, u.oneCell' = true)
    (h63 : n + m ≤ maxLen) (hbytes : (n + m) * bytes ≤ 140737488355328) (hbase : base ≤ w.heap.size)
    (h : ∀ v' w', w'.ownsRow base e size v' (n + m) (xs ++ news) → w.grownBy w' v.ownBlock → (v'.ownBlock = v.ownBlock ∨ v'.ownBlock = some w.heap.size) → K (a.put o.dst v') w') :
    if Region.wanted o (yielded ops a.tmps) = true then Oper.wp P o a w K Q else E := by
  have hw : Region.wanted o (yielded ops a.tmps) = true := by simp [Region.wanted, hgd]
  rw [if_pos hw]
  exact wp_append_at16 w s x t ho base e i z size bytes ht hi hz hsize hby hzs hsz v n xs hs hown ad m c news hx hl hnews h1 h63 hbytes hbase h
end
theorem cell_al16 {w : World} {p : Addr} {v : Value} (h : w.cell? p = some v) (o : Obj) : (w.alloc o).cell? p = some v := (((Below.refl w.heap.size w).alloc (Nat.le_refl _) o).cell (World.block_lt_of_cell? _ _ h)).trans h
theorem below_al (w : World) (o : Obj) : Below w.heap.size w (w.alloc o) := (Below.refl _ w).alloc (Nat.le_refl _) o
theorem new_cells16 (w : World) (s : Sg) : ∀ j u, (sgc s)[j]? = some u → (w.alloc (.cells s.arr 49)).cell? ((⟨w.heap.size, 0, none⟩ : Addr).add j) = some u := by
  intro j u hj
  rw [Addr.add_lit, Nat.zero_add, (Box.new w 49 s.arr).cell j]
  have : s.arr = (sgc s).toArray := rfl
  rw [this]
  simpa using hj
theorem box_grown16 {w2 w3 : World} {g R p : Nat} {x : SV} {t : TypeId} {cs : Array Value} (h : Here w2 g R x) (hg3 : w2.grownBy w3 (Value.slice x.AS x.nS x.cS).ownBlock) (hb : Box w2 p t cs) (ht : t ≠ 49) : Box w3 p t cs :=
  hb.grown hg3 fun e => by
    obtain ⟨_, cur, hc⟩ := own_blk h.own.oS e.symm
    exact (hb.apart hc ht) rfl
/-- the next number written -/
theorem here_next {w : World} {g R : Nat} {x : SV} (h : Here w g R x) (n : Int) : Here (w.setCell ⟨g, 2, none⟩ (.int .i64 n)) g R ⟨x.AD, x.nD, x.cD, x.AS, x.nS, x.cS, n, x.dx, x.gs⟩ ∧ Foot g R w (w.setCell ⟨g, 2, none⟩ (.int .i64 n)) := by
  have hs : SOwn (w.setCell ⟨g, 2, none⟩ (.int .i64 n)) R x := h.own.stay fun i hi _ => Below.heap_setCell w ⟨g, 2, none⟩ _ i (by have := h.lt; show i ≠ g; omega)
  exact ⟨⟨h.box.put 2 _, ⟨hs.lD, hs.lS, hs.oD, hs.oS, hs.oT⟩, h.lt, by have := h.le; simp [World.setCell]; omega⟩, (Foot.refl g R w).put (.inl rfl) 2 _⟩
/-- what start answers -/
def StartIs (w : World) (g R : Nat) (x : SV) (v : Ev) (lim : Int) (e : Ending) (w' : World) : Prop :=
  ∃ y : SV, e = .returned (.int .i64 (startS x.st v lim).2) ∧ Here w' g R y ∧ y.st = (startS x.st v lim).1 ∧ Foot g R w w'
theorem startS_none {x : SV} {v : Ev} {lim : Int} (h : findX x.dx v.nm = -1) : startS x.st v lim = (x.st, 7) := by
  have : findD x.st.ds v.nm = -1 := (findX_is x.dx v.nm).trans h
  unfold startS
  rw [this, if_pos (by omega)]
section
variable {x : SV} {v : Ev} {lim : Int} {i : Nat} (h : findX x.dx v.nm = (i : Int))
include h
theorem startS_arg (hn : v.sg ≠ x.nx) : startS x.st v lim = (x.st, 1) := by
  have : findD x.st.ds v.nm = (i : Int) := (findX_is x.dx v.nm).trans h
  unfold startS
  rw [this, if_neg (by omega), if_pos (show v.sg ≠ x.st.nx from hn)]
theorem startS_full (hn : v.sg = x.nx) (hf : lim ≤ x.gs.length ∨ 1125899906842624 ≤ x.nx) : startS x.st v lim = (x.st, 8) := by
  have : findD x.st.ds v.nm = (i : Int) := (findX_is x.dx v.nm).trans h
  unfold startS
  rw [this, if_neg (by omega), if_neg (show ¬ v.sg ≠ x.st.nx from fun e => e hn), if_pos (show lim ≤ x.st.gs.length ∨ 1125899906842624 ≤ x.st.nx from hf)]
theorem startS_yes (hn : v.sg = x.nx) (hf : ¬ (lim ≤ x.gs.length ∨ 1125899906842624 ≤ x.nx)) : startS x.st v lim = (⟨x.dx.map DX.m, x.gs ++ [beginS v.nm v.sg v.now], x.nx + 1⟩, 0) := by
  have : findD x.st.ds v.nm = (i : Int) := (findX_is x.dx v.nm).trans h
  unfold startS
  rw [this, if_neg (by omega), if_neg (show ¬ v.sg ≠ x.st.nx from fun e => e hn), if_neg (show ¬ (lim ≤ x.st.gs.length ∨ 1125899906842624 ≤ x.st.nx) from hf)]
  rfl
end
set_option maxHeartbeats 4000000 in
set_option maxRecDepth 100000 in
theorem start_any (x : SV) (g R : Nat) (v : Ev) (A : Option Addr) (n c : Nat) (lim : Int) (w : World) (h : Here w g R x) (hb : x.nD ≤ 1000000) (hb2 : x.nS ≤ 1000000000) (hnx : 0 ≤ x.nx) :
    Calls Tryz.prog 18 #[.pointer (some ⟨g, 0, none⟩), .agg #[.int .i64 v.k, .int .i64 v.now, .int .i64 v.sg, .string v.nm, .int .i64 v.r.sg, .int .i64 v.r.sp, .bool v.r.un, .int .i64 v.r.tr, .bool v.r.good, .string v.dn, .int .i64 v.dl, .slice A n c], .int .i64 lim] w (StartIs w g R x v lim) := by
  have hB0 : Below w.heap.size w (w.alloc (.cells #[.int .i64 v.k, .int .i64 v.now, .int .i64 v.sg, .string v.nm, .int .i64 v.r.sg, .int .i64 v.r.sp, .bool v.r.un, .int .i64 v.r.tr, .bool v.r.good, .string v.dn, .int .i64 v.dl, .slice A n c] 35)) := (Below.refl _ w).alloc (Nat.le_refl _) _
  have HB := Lib.hid hB0
  have HX := Lib.hid (Box.new w 35 #[.int .i64 v.k, .int .i64 v.now, .int .i64 v.sg, .string v.nm, .int .i64 v.r.sg, .int .i64 v.r.sp, .bool v.r.un, .int .i64 v.r.tr, .bool v.r.good, .string v.dn, .int .i64 v.dl, .slice A n c])
  have HH := Lib.hid (h.below hB0)
  have HHw := Lib.hid h
  have hgw : g < w.heap.size := h.box.lt
  clear h hB0
  rcases findX_cases x.dx v.nm with hf | ⟨i, d, hf, hd, hdn, hil⟩
  · have HF := Lib.hid (startS_none (lim := lim) hf)
    have HP := Lib.hid (fun u (hu : Below (w.alloc (.cells #[.int .i64 v.k, .int .i64 v.now, .int .i64 v.sg, .string v.nm, .int .i64 v.r.sg, .int .i64 v.r.sp, .bool v.r.un, .int .i64 v.r.tr, .bool v.r.good, .string v.dn, .int .i64 v.dl, .slice A n c] 35)).heap.size (w.alloc (.cells #[.int .i64 v.k, .int .i64 v.now, .int .i64 v.sg, .string v.nm, .int .i64 v.r.sg, .int .i64 v.r.sp, .bool v.r.un, .int .i64 v.r.tr, .bool v.r.good, .string v.dn, .int .i64 v.dl, .slice A n c] 35)) u) => foundD_no x.AD x.nD x.cD x.dx v.nm u HHw.out.own.lD (by omega) (HH.out.own.sin.on hu).hD hf)
    clear hf
    go_enter Tryz.func18, Tryz.ntmps18
    go_upto_region 1 with fail
    generalize w.alloc (.cells #[.int .i64 v.k, .int .i64 v.now, .int .i64 v.sg, .string v.nm, .int .i64 v.r.sg, .int .i64 v.r.sp, .bool v.r.un, .int .i64 v.r.tr, .bool v.r.good, .string v.dn, .int .i64 v.dl, .slice A n c] 35) = W0 at *
    have hgl : g < W0.heap.size := HH.out.box.lt
    have hwl : w.heap.size < W0.heap.size := HX.out.lt
    have z0 : ∀ u, Below W0.heap.size W0 u → u.cell? ⟨g, 0, none⟩ = some (.slice x.AD x.nD x.cD) := fun u H => (H.cell (p := ⟨g, 0, none⟩) hgl).trans (HH.out.box.cell 0)
    have z1 : ∀ u, Below W0.heap.size W0 u → u.cell? ⟨w.heap.size, 3, none⟩ = some (.string v.nm) := fun u H => (H.cell (p := ⟨w.heap.size, 3, none⟩) hwl).trans (HX.out.cell 3)
    go_region_held3 (fun u => Below W0.heap.size W0 u) (first | exact Below.refl _ _ | exact Below.drew (Below.refl _ _) | assumption | exact Below.alloc (by assumption) (Below.size (by assumption)) _ | exact Below.alloc (Below.drew (Below.refl _ _)) (Nat.le_refl _) _ | exact below_put (below_put (below_put (by assumption) (Nat.le_refl _) _ _) (Nat.le_refl _) _ _) (Nat.le_refl _) _ _)
      ((go_at_call 43; (with_reducible refine (HP.out _ ?_).mono ?_); (first | assumption | exact Below.drew (Below.refl _ _)); rintro e w1 ⟨rfl, hb1⟩; have hw1 : Below W0.heap.size W0 w1 := (by first | exact (Below.drew (Below.refl _ _)).trans hb1 | exact Below.trans (by assumption) (Below.mono hb1 (Below.size (by assumption)))); (first | (have HQ := Lib.hid ((Box.new W0.drew 33 #[.string ⟨#[]⟩, .int .i64 0, .slice none 0 0]).below hb1 (by simp)); have q0 : w1.cell? ⟨W0.heap.size, 0, none⟩ = some (.string ⟨#[]⟩) := (hb1.cell (p := ⟨W0.heap.size, 0, none⟩) (by simp)).trans ((Box.new W0.drew 33 #[.string ⟨#[]⟩, .int .i64 0, .slice none 0 0]).cell 0); have q1 : w1.cell? ⟨W0.heap.size, 1, none⟩ = some (.int .i64 0) := (hb1.cell (p := ⟨W0.heap.size, 1, none⟩) (by simp)).trans ((Box.new W0.drew 33 #[.string ⟨#[]⟩, .int .i64 0, .slice none 0 0]).cell 1); have q2 : w1.cell? ⟨W0.heap.size, 2, none⟩ = some (.slice none 0 0) := (hb1.cell (p := ⟨W0.heap.size, 2, none⟩) (by simp)).trans ((Box.new W0.drew 33 #[.string ⟨#[]⟩, .int .i64 0, .slice none 0 0]).cell 2); have p0 : w1.frozen? ⟨W0.heap.size, 0, none⟩ = false := (hb1.frozen (p := ⟨W0.heap.size, 0, none⟩) (by simp)).trans ((Box.new W0.drew 33 #[.string ⟨#[]⟩, .int .i64 0, .slice none 0 0]).frozen 0); have p1 : w1.frozen? ⟨W0.heap.size, 1, none⟩ = false := (hb1.frozen (p := ⟨W0.heap.size, 1, none⟩) (by simp)).trans ((Box.new W0.drew 33 #[.string ⟨#[]⟩, .int .i64 0, .slice none 0 0]).frozen 1); have p2 : w1.frozen? ⟨W0.heap.size, 2, none⟩ = false := (hb1.frozen (p := ⟨W0.heap.size, 2, none⟩) (by simp)).trans ((Box.new W0.drew 33 #[.string ⟨#[]⟩, .int .i64 0, .slice none 0 0]).frozen 2)) | skip)))
    all_goals
      have hS : Below W0.heap.size W0 _ := (by assumption)
      go_wp2
      go_ret
      exact ⟨x, by rw [HF.out]; rfl, HH.out.below (by assumption), by rw [HF.out], Foot.of_below (HB.out.trans (Below.mono (by assumption) HB.out.size)) HHw.out.le⟩
  · have HP := Lib.hid (fun u (hu : Below (w.alloc (.cells #[.int .i64 v.k, .int .i64 v.now, .int .i64 v.sg, .string v.nm, .int .i64 v.r.sg, .int .i64 v.r.sp, .bool v.r.un, .int .i64 v.r.tr, .bool v.r.good, .string v.dn, .int .i64 v.dl, .slice A n c] 35)).heap.size (w.alloc (.cells #[.int .i64 v.k, .int .i64 v.now, .int .i64 v.sg, .string v.nm, .int .i64 v.r.sg, .int .i64 v.r.sp, .bool v.r.un, .int .i64 v.r.tr, .bool v.r.good, .string v.dn, .int .i64 v.dl, .slice A n c] 35)) u) => foundD_yes x.AD x.nD x.cD x.dx v.nm u HHw.out.own.lD (by omega) (HH.out.own.sin.on hu).hD i d hd hf)
    have HFA := Lib.hid (fun hn => startS_arg (lim := lim) hf (v := v) hn)
    have HFF := Lib.hid (fun hn hq => startS_full (lim := lim) hf (v := v) hn hq)
    have HFY := Lib.hid (fun hn hq => startS_yes (lim := lim) hf (v := v) hn hq)
    have HDN := Lib.hid hdn
    clear hf hd hil hdn
    go_enter Tryz.func18, Tryz.ntmps18
    go_upto_region 1 with fail
    generalize w.alloc (.cells #[.int .i64 v.k, .int .i64 v.now, .int .i64 v.sg, .string v.nm, .int .i64 v.r.sg, .int .i64 v.r.sp, .bool v.r.un, .int .i64 v.r.tr, .bool v.r.good, .string v.dn, .int .i64 v.dl, .slice A n c] 35) = W0 at *
    have hgl : g < W0.heap.size := HH.out.box.lt
    have hwl : w.heap.size < W0.heap.size := HX.out.lt
    have z0 : ∀ u, Below W0.heap.size W0 u → u.cell? ⟨g, 0, none⟩ = some (.slice x.AD x.nD x.cD) := fun u H => (H.cell (p := ⟨g, 0, none⟩) hgl).trans (HH.out.box.cell 0)
    have z1 : ∀ u, Below W0.heap.size W0 u → u.cell? ⟨w.heap.size, 3, none⟩ = some (.string v.nm) := fun u H => (H.cell (p := ⟨w.heap.size, 3, none⟩) hwl).trans (HX.out.cell 3)
    go_cut [7, 8] (fun v7 v8 wc => ∃ b7 : Nat, v7 = .pointer (some ⟨b7, 0, none⟩) ∧ v8 = .bool true ∧ Hid (Below W0.heap.size W0 wc ∧ Box wc b7 33 #[.string d.nm, .int .i64 d.dl, .slice d.A d.n d.c] ∧ W0.heap.size ≤ b7))
    case first =>
      go_region_held3 (fun u => Below W0.heap.size W0 u) (first | exact Below.refl _ _ | exact Below.drew (Below.refl _ _) | assumption | exact Below.alloc (by assumption) (Below.size (by assumption)) _ | exact Below.alloc (Below.drew (Below.refl _ _)) (Nat.le_refl _) _ | exact below_put (below_put (below_put (by assumption) (Nat.le_refl _) _ _) (Nat.le_refl _) _ _) (Nat.le_refl _) _ _)
        ((go_at_call 43; (with_reducible refine (HP.out _ ?_).mono ?_); (first | assumption | exact Below.drew (Below.refl _ _)); rintro e w1 ⟨rfl, hb1⟩; have hw1 : Below W0.heap.size W0 w1 := (by first | exact (Below.drew (Below.refl _ _)).trans hb1 | exact Below.trans (by assumption) (Below.mono hb1 (Below.size (by assumption)))); (first | (have HQ := Lib.hid ((Box.new W0.drew 33 #[.string ⟨#[]⟩, .int .i64 0, .slice none 0 0]).below hb1 (by simp)); have q0 : w1.cell? ⟨W0.heap.size, 0, none⟩ = some (.string ⟨#[]⟩) := (hb1.cell (p := ⟨W0.heap.size, 0, none⟩) (by simp)).trans ((Box.new W0.drew 33 #[.string ⟨#[]⟩, .int .i64 0, .slice none 0 0]).cell 0); have q1 : w1.cell? ⟨W0.heap.size, 1, none⟩ = some (.int .i64 0) := (hb1.cell (p := ⟨W0.heap.size, 1, none⟩) (by simp)).trans ((Box.new W0.drew 33 #[.string ⟨#[]⟩, .int .i64 0, .slice none 0 0]).cell 1); have q2 : w1.cell? ⟨W0.heap.size, 2, none⟩ = some (.slice none 0 0) := (hb1.cell (p := ⟨W0.heap.size, 2, none⟩) (by simp)).trans ((Box.new W0.drew 33 #[.string ⟨#[]⟩, .int .i64 0, .slice none 0 0]).cell 2); have p0 : w1.frozen? ⟨W0.heap.size, 0, none⟩ = false := (hb1.frozen (p := ⟨W0.heap.size, 0, none⟩) (by simp)).trans ((Box.new W0.drew 33 #[.string ⟨#[]⟩, .int .i64 0, .slice none 0 0]).frozen 0); have p1 : w1.frozen? ⟨W0.heap.size, 1, none⟩ = false := (hb1.frozen (p := ⟨W0.heap.size, 1, none⟩) (by simp)).trans ((Box.new W0.drew 33 #[.string ⟨#[]⟩, .int .i64 0, .slice none 0 0]).frozen 1); have p2 : w1.frozen? ⟨W0.heap.size, 2, none⟩ = false := (hb1.frozen (p := ⟨W0.heap.size, 2, none⟩) (by simp)).trans ((Box.new W0.drew 33 #[.string ⟨#[]⟩, .int .i64 0, .slice none 0 0]).frozen 2)) | skip)))
      all_goals
        go_wp2
        go_meet
        first
          | exact ⟨_, rfl, rfl, Lib.hid ⟨by assumption, Box.new _ _ _, Below.size (by assumption)⟩⟩
          | exact ⟨_, rfl, rfl, Lib.hid ⟨by assumption, ((HQ.out.put 0 _).put 1 _).put 2 _, Nat.le_refl _⟩⟩
    case rest =>
      obtain ⟨b7, rfl, rfl, HC⟩ := hcut
      clear z0 z1 HP
      have HHc := Lib.hid (HH.out.below HC.out.1)
      have HXc := Lib.hid (HX.out.below HC.out.1 HX.out.lt)
      have HWc := Lib.hid (HB.out.trans (HC.out.1.mono HB.out.size))
      have a2 : wc.cell? ⟨w.heap.size, 2, none⟩ = some (.int .i64 v.sg) := HXc.out.cell 2
      obtain ⟨_, _, g2⟩ := HHc.out.cells
      by_cases hsg : v.sg = x.nx
      · have e1 : (v.sg == x.nx) = true := by simpa using hsg
        have e2 : (v.sg != x.nx) = false := by simpa using hsg
        have HSG := Lib.hid hsg
        clear hsg
        by_cases hl : lim ≤ (x.nS : Int)
        · have HF := Lib.hid (HFF.out HSG.out (.inl (by rw [← HHw.out.own.lS]; exact hl)))
          have q1 : decide (lim ≤ (x.nS : Int)) = true := decide_eq_true hl
          go_upto_region 4 with fail
          go_quiet (fail)
          have HV := Lib.hid (show Below wc.heap.size wc (wc.drewN nq) from ⟨rfl, rfl, rfl, Nat.le_refl _, fun _ _ => rfl⟩)
          generalize wc.drewN nq = V at *
          obtain ⟨_, g11, g12⟩ := (HHc.out.below HV.out).cells
          go_wp2
          go_ret
          exact ⟨x, by rw [HF.out]; rfl, HHc.out.below HV.out, by rw [HF.out], Foot.of_below (HWc.out.trans (HV.out.mono HWc.out.size)) HHw.out.le⟩
        · have q1 : decide (lim ≤ (x.nS : Int)) = false := decide_eq_false hl
          by_cases hm : 1125899906842624 ≤ x.nx
          · have HF := Lib.hid (HFF.out HSG.out (.inr hm))
            have q2 : decide (1125899906842624 ≤ x.nx) = true := decide_eq_true hm
            go_upto_region 4 with fail
            go_quiet (fail)
            have HV := Lib.hid (show Below wc.heap.size wc (wc.drewN nq) from ⟨rfl, rfl, rfl, Nat.le_refl _, fun _ _ => rfl⟩)
            generalize wc.drewN nq = V at *
            obtain ⟨_, g11, g12⟩ := (HHc.out.below HV.out).cells
            go_wp2
            go_ret
            exact ⟨x, by rw [HF.out]; rfl, HHc.out.below HV.out, by rw [HF.out], Foot.of_below (HWc.out.trans (HV.out.mono HWc.out.size)) HHw.out.le⟩
          · have HF := Lib.hid (HFY.out HSG.out (by rw [← HHw.out.own.lS]; omega))
            have q2 : decide (1125899906842624 ≤ x.nx) = false := decide_eq_false hm
            go_upto_region 4 with fail
            go_quiet (fail)
            have HV := Lib.hid (show Below wc.heap.size wc (wc.drewN nq) from ⟨rfl, rfl, rfl, Nat.le_refl _, fun _ _ => rfl⟩)
            generalize wc.drewN nq = V at *
            have HHV := Lib.hid (HHc.out.below HV.out)
            have HXV := Lib.hid (HXc.out.below HV.out HXc.out.lt)
            have HDV := Lib.hid (HC.out.2.1.below HV.out HC.out.2.1.lt)
            have HWV := Lib.hid (HWc.out.trans (HV.out.mono HWc.out.size))
            obtain ⟨_, g11, g12⟩ := HHV.out.cells
            go_upto_region 9 with fail
            -- region 9 (gen-stastart.py)
            obtain ⟨i0, hi0, hz0, hz1, hz2⟩ := info_of infoS
            have hbg : b7 ≠ g := by have := HC.out.2.2; omega
            have hnS : x.nS + 1 ≤ 1000000001 := by omega
            clear g11 g12
            obtain ⟨s, hsb⟩ : ∃ s, s = beginS d.nm v.sg v.now := ⟨_, rfl⟩
            have HBG : Hid (∀ W, Calls Tryz.prog 44 #[.agg #[.string d.nm, .int .i64 d.dl, .slice d.A d.n d.c], .int .i64 v.sg, .int .i64 v.now] W fun e w' => e = .returned (.agg #[.int .i64 s.id, .string s.dn, .int .i64 s.st, .int .i64 s.ph, .int .i64 s.sp, .int .i64 s.tr, .bool s.out, .int .i64 s.at_, .int .i64 s.sk]) ∧ Made W w') := Lib.hid fun W => by
              have := Sa.begin_any d.nm d.dl d.A d.n d.c v.sg v.now W
              rw [← hsb] at this
              exact this
            rw [HDN.out] at hsb
            rw [← hsb] at HF
            clear hsb
            have z1 : ∀ u, (fun u => Box u w.heap.size 35 #[.int .i64 v.k, .int .i64 v.now, .int .i64 v.sg, .string v.nm, .int .i64 v.r.sg, .int .i64 v.r.sp, .bool v.r.un, .int .i64 v.r.tr, .bool v.r.good, .string v.dn, .int .i64 v.dl, .slice A n c] ∧ Box u b7 33 #[.string d.nm, .int .i64 d.dl, .slice d.A d.n d.c]) u → u.cell? ⟨w.heap.size, 1, none⟩ = some (.int .i64 v.now) := fun u h => h.1.cell 1
            have z2 : ∀ u, (fun u => Box u w.heap.size 35 #[.int .i64 v.k, .int .i64 v.now, .int .i64 v.sg, .string v.nm, .int .i64 v.r.sg, .int .i64 v.r.sp, .bool v.r.un, .int .i64 v.r.tr, .bool v.r.good, .string v.dn, .int .i64 v.dl, .slice A n c] ∧ Box u b7 33 #[.string d.nm, .int .i64 d.dl, .slice d.A d.n d.c]) u → u.cell? ⟨w.heap.size, 2, none⟩ = some (.int .i64 v.sg) := fun u h => h.1.cell 2
            have y0 : ∀ u, (fun u => Box u w.heap.size 35 #[.int .i64 v.k, .int .i64 v.now, .int .i64 v.sg, .string v.nm, .int .i64 v.r.sg, .int .i64 v.r.sp, .bool v.r.un, .int .i64 v.r.tr, .bool v.r.good, .string v.dn, .int .i64 v.dl, .slice A n c] ∧ Box u b7 33 #[.string d.nm, .int .i64 d.dl, .slice d.A d.n d.c]) u → u.cell? ⟨b7, 0, none⟩ = some (.string d.nm) := fun u h => h.2.cell 0
            have y1 : ∀ u, (fun u => Box u w.heap.size 35 #[.int .i64 v.k, .int .i64 v.now, .int .i64 v.sg, .string v.nm, .int .i64 v.r.sg, .int .i64 v.r.sp, .bool v.r.un, .int .i64 v.r.tr, .bool v.r.good, .string v.dn, .int .i64 v.dl, .slice A n c] ∧ Box u b7 33 #[.string d.nm, .int .i64 d.dl, .slice d.A d.n d.c]) u → u.cell? ⟨b7, 1, none⟩ = some (.int .i64 d.dl) := fun u h => h.2.cell 1
            have y2 : ∀ u, (fun u => Box u w.heap.size 35 #[.int .i64 v.k, .int .i64 v.now, .int .i64 v.sg, .string v.nm, .int .i64 v.r.sg, .int .i64 v.r.sp, .bool v.r.un, .int .i64 v.r.tr, .bool v.r.good, .string v.dn, .int .i64 v.dl, .slice A n c] ∧ Box u b7 33 #[.string d.nm, .int .i64 d.dl, .slice d.A d.n d.c]) u → u.cell? ⟨b7, 2, none⟩ = some (.slice d.A d.n d.c) := fun u h => h.2.cell 2
            refine wp_region_held_drew (S := fun u => Box u w.heap.size 35 #[.int .i64 v.k, .int .i64 v.now, .int .i64 v.sg, .string v.nm, .int .i64 v.r.sg, .int .i64 v.r.sp, .bool v.r.un, .int .i64 v.r.tr, .bool v.r.good, .string v.dn, .int .i64 v.dl, .slice A n c] ∧ Box u b7 33 #[.string d.nm, .int .i64 d.dl, .slice d.A d.n d.c]) (by kernel_rfl) (⟨HXV.out, HDV.out⟩) (fun hHeld => ?_)
            refine Un.tk 0 43 rfl ?_
            refine Un.tk 1 44 rfl ?_
            refine Un.tk 2 45 rfl ?_
            refine Un.tk 3 46 rfl ?_
            refine Un.tk 6 49 rfl ?_
            refine Un.tk 8 51 rfl ?_
            refine Un.tk 5 48 rfl ?_
            refine Un.tk 7 50 rfl ?_
            refine Un.tk 9 52 rfl ?_
            refine wpAnyH_ready (rs := [4, 10]) (by decide +kernel) (by simp) ?_
            refine AllReadyH.cons (o := ⟨some 47, _, _, _, _, _⟩) rfl (fun K hK => ?_) (AllReadyH.cons (o := ⟨some 53, _, _, _, _, _⟩) rfl (fun K hK => ?_) AllReadyH.nil)
            · have g11 : V.drew.cell? ⟨g, 1, none⟩ = some (.slice x.AS x.nS x.cS) := HHV.out.cells.2.1
              go_simp
              refine hK.out _ _ ?_ (fun hHeld => ?_)
              · exact ⟨HXV.out, HDV.out⟩
              clear hK K
              (try simp only [Act.put, List.setIfInBounds_toArray, List.set_cons_zero, List.set_cons_succ])
              clear g11
              refine wpAnyH_ready (rs := [10]) (by decide +kernel) (by simp) ?_
              refine AllReadyH.cons (o := ⟨some 53, _, _, _, _, _⟩) rfl (fun K hK => ?_) AllReadyH.nil
              go_simp
              refine (HBG.out _).mono ?_
              rintro e w1 ⟨rfl, hm⟩
              have hb1 : Below V.heap.size V w1 := (Below.drew (Below.refl _ V)).trans hm.below
              have HB1 := Lib.hid hb1
              clear hm hb1
              go_wp2_with fail
              refine hK.out _ _ ?_ (fun hHeld => ?_)
              · exact ⟨HXV.out.below HB1.out HXV.out.lt, HDV.out.below HB1.out HDV.out.lt⟩
              clear hK K
              (try simp only [Act.put, List.setIfInBounds_toArray, List.set_cons_zero, List.set_cons_succ])
              refine wpAnyH_ready (rs := [11]) (by decide +kernel) (by simp) ?_
              refine AllReadyH.cons (o := ⟨some 54, _, _, _, _, _⟩) rfl (fun K hK => ?_) AllReadyH.nil
              go_simp
              refine hK.out _ _ ?_ (fun hHeld => ?_)
              · exact ⟨(HXV.out.below HB1.out HXV.out.lt).below (below_al _ _) ((HXV.out.below HB1.out HXV.out.lt).lt), (HDV.out.below HB1.out HDV.out.lt).below (below_al _ _) ((HDV.out.below HB1.out HDV.out.lt).lt)⟩
              clear hK K
              (try simp only [Act.put, List.setIfInBounds_toArray, List.set_cons_zero, List.set_cons_succ])
              refine wpAnyH_ready (rs := [12]) (by decide +kernel) (by simp) ?_
              refine AllReadyH.cons (o := ⟨some 55, _, _, _, _, _⟩) rfl (fun K hK => ?_) AllReadyH.nil
              have hHw := (HHV.out.below HB1.out).below (below_al w1 (.cells #[.int .i64 s.id, .string s.dn, .int .i64 s.st, .int .i64 s.ph, .int .i64 s.sp, .int .i64 s.tr, .bool s.out, .int .i64 s.at_, .int .i64 s.sk] 49))
              refine step_append_at16 _ rfl (.tmp 47) (.tmp 54) 25 rfl R 49 i0 zeroS 9 80 Tryz.underlying25 hi0 hz0 hz1 hz2 rfl (by decide) _ x.nS _ rfl hHw.own.oS ⟨w1.heap.size, 0, none⟩ 1 1 (sgc s) rfl rfl (new_cells16 w1 _) (sg_one _) (by unfold maxLen; omega) (by omega) (by have := hHw.le; exact this) ?_
              intro v3 w3 hown3 hg3 hat3
              obtain ⟨A3, c3, rfl⟩ := own_form hown3
              have HFIN := Lib.hid (here_row (gs' := x.gs ++ [s]) (AS' := A3) (nS' := x.nS + 1) (cS' := c3) HHV.out (HB1.out.trans ((below_al w1 (.cells #[.int .i64 s.id, .string s.dn, .int .i64 s.st, .int .i64 s.ph, .int .i64 s.sp, .int .i64 s.tr, .bool s.out, .int .i64 s.at_, .int .i64 s.sk] 49)).mono HB1.out.size)) hg3 (by rw [List.length_append, ← HHV.out.own.lS]; rfl) (by rw [List.flatMap_append]; simpa using hown3))
              have HB3 := Lib.hid (here_cell hHw hg3)
              have HX3 := Lib.hid (box_grown16 hHw hg3 ((HXV.out.below HB1.out HXV.out.lt).below (below_al w1 (.cells #[.int .i64 s.id, .string s.dn, .int .i64 s.st, .int .i64 s.ph, .int .i64 s.sp, .int .i64 s.tr, .bool s.out, .int .i64 s.at_, .int .i64 s.sk] 49)) (HXV.out.below HB1.out HXV.out.lt).lt) (by decide))
              have HD3 := Lib.hid (box_grown16 hHw hg3 ((HDV.out.below HB1.out HDV.out.lt).below (below_al w1 (.cells #[.int .i64 s.id, .string s.dn, .int .i64 s.st, .int .i64 s.ph, .int .i64 s.sp, .int .i64 s.tr, .bool s.out, .int .i64 s.at_, .int .i64 s.sk] 49)) (HDV.out.below HB1.out HDV.out.lt).lt) (by decide))
              clear hown3 hg3 hat3 hHw
              refine hK.out _ _ ?_ (fun hHeld => ?_)
              · exact ⟨HX3.out, HD3.out⟩
              clear hK K
              (try simp only [Act.put, List.setIfInBounds_toArray, List.set_cons_zero, List.set_cons_succ])
              refine Un.tk 13 56 rfl ?_
              refine Un.tk 14 57 rfl ?_
              have g11 : w3.cell? ⟨g, 1, none⟩ = some (.slice x.AS x.nS x.cS) := HB3.out.cell 1
              have f11 : w3.frozen? ⟨g, 1, none⟩ = false := HB3.out.frozen 1
              refine wpAnyH_ready (rs := [15]) (by decide +kernel) (by simp) ?_
              refine AllReadyH.cons (o := ⟨none, _, _, _, _, _⟩) rfl (fun K hK => ?_) AllReadyH.nil
              go_simp
              refine hK.out _ _ ?_ (fun hHeld => ?_)
              · exact ⟨HX3.out.far (p := ⟨g, 1, none⟩) (by show w.heap.size ≠ g; omega) _, HD3.out.far (p := ⟨g, 1, none⟩) (by show b7 ≠ g; omega) _⟩
              clear hK K
              (try simp only [Act.put, List.setIfInBounds_toArray, List.set_cons_zero, List.set_cons_succ])
              refine wpAnyH_done (by kernel_rfl) ?_ _
              clear g11 f11
              obtain ⟨_, _, g12⟩ := HFIN.out.1.cells
              obtain ⟨_, _, f12⟩ := HFIN.out.1.frozen
              go_wp2
              go_ret
              exact ⟨_, by rw [HF.out]; rfl, (here_next HFIN.out.1 _).1, by rw [HF.out]; rfl, ((Foot.of_below HWV.out HHw.out.le).trans (Foot.trans HFIN.out.2 (here_next HFIN.out.1 _).2))⟩
            · go_simp
              refine (HBG.out _).mono ?_
              rintro e w1 ⟨rfl, hm⟩
              have hb1 : Below V.heap.size V w1 := (Below.drew (Below.refl _ V)).trans hm.below
              have HB1 := Lib.hid hb1
              clear hm hb1
              go_wp2_with fail
              refine hK.out _ _ ?_ (fun hHeld => ?_)
              · exact ⟨HXV.out.below HB1.out HXV.out.lt, HDV.out.below HB1.out HDV.out.lt⟩
              clear hK K
              (try simp only [Act.put, List.setIfInBounds_toArray, List.set_cons_zero, List.set_cons_succ])
              refine wpAnyH_ready (rs := [4, 11]) (by decide +kernel) (by simp) ?_
              refine AllReadyH.cons (o := ⟨some 47, _, _, _, _, _⟩) rfl (fun K hK => ?_) (AllReadyH.cons (o := ⟨some 54, _, _, _, _, _⟩) rfl (fun K hK => ?_) AllReadyH.nil)
              · have g11 : w1.cell? ⟨g, 1, none⟩ = some (.slice x.AS x.nS x.cS) := (HHV.out.below HB1.out).cells.2.1
                go_simp
                refine hK.out _ _ ?_ (fun hHeld => ?_)
                · exact ⟨HXV.out.below HB1.out HXV.out.lt, HDV.out.below HB1.out HDV.out.lt⟩
                clear hK K
                (try simp only [Act.put, List.setIfInBounds_toArray, List.set_cons_zero, List.set_cons_succ])
                clear g11
                refine wpAnyH_ready (rs := [11]) (by decide +kernel) (by simp) ?_
                refine AllReadyH.cons (o := ⟨some 54, _, _, _, _, _⟩) rfl (fun K hK => ?_) AllReadyH.nil
                go_simp
                refine hK.out _ _ ?_ (fun hHeld => ?_)
                · exact ⟨(HXV.out.below HB1.out HXV.out.lt).below (below_al _ _) ((HXV.out.below HB1.out HXV.out.lt).lt), (HDV.out.below HB1.out HDV.out.lt).below (below_al _ _) ((HDV.out.below HB1.out HDV.out.lt).lt)⟩
                clear hK K
                (try simp only [Act.put, List.setIfInBounds_toArray, List.set_cons_zero, List.set_cons_succ])
                refine wpAnyH_ready (rs := [12]) (by decide +kernel) (by simp) ?_
                refine AllReadyH.cons (o := ⟨some 55, _, _, _, _, _⟩) rfl (fun K hK => ?_) AllReadyH.nil
                have hHw := (HHV.out.below HB1.out).below (below_al w1 (.cells #[.int .i64 s.id, .string s.dn, .int .i64 s.st, .int .i64 s.ph, .int .i64 s.sp, .int .i64 s.tr, .bool s.out, .int .i64 s.at_, .int .i64 s.sk] 49))
                refine step_append_at16 _ rfl (.tmp 47) (.tmp 54) 25 rfl R 49 i0 zeroS 9 80 Tryz.underlying25 hi0 hz0 hz1 hz2 rfl (by decide) _ x.nS _ rfl hHw.own.oS ⟨w1.heap.size, 0, none⟩ 1 1 (sgc s) rfl rfl (new_cells16 w1 _) (sg_one _) (by unfold maxLen; omega) (by omega) (by have := hHw.le; exact this) ?_
                intro v3 w3 hown3 hg3 hat3
                obtain ⟨A3, c3, rfl⟩ := own_form hown3
                have HFIN := Lib.hid (here_row (gs' := x.gs ++ [s]) (AS' := A3) (nS' := x.nS + 1) (cS' := c3) HHV.out (HB1.out.trans ((below_al w1 (.cells #[.int .i64 s.id, .string s.dn, .int .i64 s.st, .int .i64 s.ph, .int .i64 s.sp, .int .i64 s.tr, .bool s.out, .int .i64 s.at_, .int .i64 s.sk] 49)).mono HB1.out.size)) hg3 (by rw [List.length_append, ← HHV.out.own.lS]; rfl) (by rw [List.flatMap_append]; simpa using hown3))
                have HB3 := Lib.hid (here_cell hHw hg3)
                have HX3 := Lib.hid (box_grown16 hHw hg3 ((HXV.out.below HB1.out HXV.out.lt).below (below_al w1 (.cells #[.int .i64 s.id, .string s.dn, .int .i64 s.st, .int .i64 s.ph, .int .i64 s.sp, .int .i64 s.tr, .bool s.out, .int .i64 s.at_, .int .i64 s.sk] 49)) (HXV.out.below HB1.out HXV.out.lt).lt) (by decide))
                have HD3 := Lib.hid (box_grown16 hHw hg3 ((HDV.out.below HB1.out HDV.out.lt).below (below_al w1 (.cells #[.int .i64 s.id, .string s.dn, .int .i64 s.st, .int .i64 s.ph, .int .i64 s.sp, .int .i64 s.tr, .bool s.out, .int .i64 s.at_, .int .i64 s.sk] 49)) (HDV.out.below HB1.out HDV.out.lt).lt) (by decide))
                clear hown3 hg3 hat3 hHw
                refine hK.out _ _ ?_ (fun hHeld => ?_)
                · exact ⟨HX3.out, HD3.out⟩
                clear hK K
                (try simp only [Act.put, List.setIfInBounds_toArray, List.set_cons_zero, List.set_cons_succ])
                refine Un.tk 13 56 rfl ?_
                refine Un.tk 14 57 rfl ?_
                have g11 : w3.cell? ⟨g, 1, none⟩ = some (.slice x.AS x.nS x.cS) := HB3.out.cell 1
                have f11 : w3.frozen? ⟨g, 1, none⟩ = false := HB3.out.frozen 1
                refine wpAnyH_ready (rs := [15]) (by decide +kernel) (by simp) ?_
                refine AllReadyH.cons (o := ⟨none, _, _, _, _, _⟩) rfl (fun K hK => ?_) AllReadyH.nil
                go_simp
                refine hK.out _ _ ?_ (fun hHeld => ?_)
                · exact ⟨HX3.out.far (p := ⟨g, 1, none⟩) (by show w.heap.size ≠ g; omega) _, HD3.out.far (p := ⟨g, 1, none⟩) (by show b7 ≠ g; omega) _⟩
                clear hK K
                (try simp only [Act.put, List.setIfInBounds_toArray, List.set_cons_zero, List.set_cons_succ])
                refine wpAnyH_done (by kernel_rfl) ?_ _
                clear g11 f11
                obtain ⟨_, _, g12⟩ := HFIN.out.1.cells
                obtain ⟨_, _, f12⟩ := HFIN.out.1.frozen
                go_wp2
                go_ret
                exact ⟨_, by rw [HF.out]; rfl, (here_next HFIN.out.1 _).1, by rw [HF.out]; rfl, ((Foot.of_below HWV.out HHw.out.le).trans (Foot.trans HFIN.out.2 (here_next HFIN.out.1 _).2))⟩
              · go_simp
                refine hK.out _ _ ?_ (fun hHeld => ?_)
                · exact ⟨(HXV.out.below HB1.out HXV.out.lt).below (below_al _ _) ((HXV.out.below HB1.out HXV.out.lt).lt), (HDV.out.below HB1.out HDV.out.lt).below (below_al _ _) ((HDV.out.below HB1.out HDV.out.lt).lt)⟩
                clear hK K
                (try simp only [Act.put, List.setIfInBounds_toArray, List.set_cons_zero, List.set_cons_succ])
                refine wpAnyH_ready (rs := [4]) (by decide +kernel) (by simp) ?_
                refine AllReadyH.cons (o := ⟨some 47, _, _, _, _, _⟩) rfl (fun K hK => ?_) AllReadyH.nil
                have g11 := cell_al16 (show w1.cell? ⟨g, 1, none⟩ = some (.slice x.AS x.nS x.cS) from (HHV.out.below HB1.out).cells.2.1) (.cells #[.int .i64 s.id, .string s.dn, .int .i64 s.st, .int .i64 s.ph, .int .i64 s.sp, .int .i64 s.tr, .bool s.out, .int .i64 s.at_, .int .i64 s.sk] 49)
                go_simp
                refine hK.out _ _ ?_ (fun hHeld => ?_)
                · exact ⟨(HXV.out.below HB1.out HXV.out.lt).below (below_al _ _) ((HXV.out.below HB1.out HXV.out.lt).lt), (HDV.out.below HB1.out HDV.out.lt).below (below_al _ _) ((HDV.out.below HB1.out HDV.out.lt).lt)⟩
                clear hK K
                (try simp only [Act.put, List.setIfInBounds_toArray, List.set_cons_zero, List.set_cons_succ])
                clear g11
                refine wpAnyH_ready (rs := [12]) (by decide +kernel) (by simp) ?_
                refine AllReadyH.cons (o := ⟨some 55, _, _, _, _, _⟩) rfl (fun K hK => ?_) AllReadyH.nil
                have hHw := (HHV.out.below HB1.out).below (below_al w1 (.cells #[.int .i64 s.id, .string s.dn, .int .i64 s.st, .int .i64 s.ph, .int .i64 s.sp, .int .i64 s.tr, .bool s.out, .int .i64 s.at_, .int .i64 s.sk] 49))
                refine step_append_at16 _ rfl (.tmp 47) (.tmp 54) 25 rfl R 49 i0 zeroS 9 80 Tryz.underlying25 hi0 hz0 hz1 hz2 rfl (by decide) _ x.nS _ rfl hHw.own.oS ⟨w1.heap.size, 0, none⟩ 1 1 (sgc s) rfl rfl (new_cells16 w1 _) (sg_one _) (by unfold maxLen; omega) (by omega) (by have := hHw.le; exact this) ?_
                intro v3 w3 hown3 hg3 hat3
                obtain ⟨A3, c3, rfl⟩ := own_form hown3
                have HFIN := Lib.hid (here_row (gs' := x.gs ++ [s]) (AS' := A3) (nS' := x.nS + 1) (cS' := c3) HHV.out (HB1.out.trans ((below_al w1 (.cells #[.int .i64 s.id, .string s.dn, .int .i64 s.st, .int .i64 s.ph, .int .i64 s.sp, .int .i64 s.tr, .bool s.out, .int .i64 s.at_, .int .i64 s.sk] 49)).mono HB1.out.size)) hg3 (by rw [List.length_append, ← HHV.out.own.lS]; rfl) (by rw [List.flatMap_append]; simpa using hown3))
                have HB3 := Lib.hid (here_cell hHw hg3)
                have HX3 := Lib.hid (box_grown16 hHw hg3 ((HXV.out.below HB1.out HXV.out.lt).below (below_al w1 (.cells #[.int .i64 s.id, .string s.dn, .int .i64 s.st, .int .i64 s.ph, .int .i64 s.sp, .int .i64 s.tr, .bool s.out, .int .i64 s.at_, .int .i64 s.sk] 49)) (HXV.out.below HB1.out HXV.out.lt).lt) (by decide))
                have HD3 := Lib.hid (box_grown16 hHw hg3 ((HDV.out.below HB1.out HDV.out.lt).below (below_al w1 (.cells #[.int .i64 s.id, .string s.dn, .int .i64 s.st, .int .i64 s.ph, .int .i64 s.sp, .int .i64 s.tr, .bool s.out, .int .i64 s.at_, .int .i64 s.sk] 49)) (HDV.out.below HB1.out HDV.out.lt).lt) (by decide))
                clear hown3 hg3 hat3 hHw
                refine hK.out _ _ ?_ (fun hHeld => ?_)
                · exact ⟨HX3.out, HD3.out⟩
                clear hK K
                (try simp only [Act.put, List.setIfInBounds_toArray, List.set_cons_zero, List.set_cons_succ])
                refine Un.tk 13 56 rfl ?_
                refine Un.tk 14 57 rfl ?_
                have g11 : w3.cell? ⟨g, 1, none⟩ = some (.slice x.AS x.nS x.cS) := HB3.out.cell 1
                have f11 : w3.frozen? ⟨g, 1, none⟩ = false := HB3.out.frozen 1
                refine wpAnyH_ready (rs := [15]) (by decide +kernel) (by simp) ?_
                refine AllReadyH.cons (o := ⟨none, _, _, _, _, _⟩) rfl (fun K hK => ?_) AllReadyH.nil
                go_simp
                refine hK.out _ _ ?_ (fun hHeld => ?_)
                · exact ⟨HX3.out.far (p := ⟨g, 1, none⟩) (by show w.heap.size ≠ g; omega) _, HD3.out.far (p := ⟨g, 1, none⟩) (by show b7 ≠ g; omega) _⟩
                clear hK K
                (try simp only [Act.put, List.setIfInBounds_toArray, List.set_cons_zero, List.set_cons_succ])
                refine wpAnyH_done (by kernel_rfl) ?_ _
                clear g11 f11
                obtain ⟨_, _, g12⟩ := HFIN.out.1.cells
                obtain ⟨_, _, f12⟩ := HFIN.out.1.frozen
                go_wp2
                go_ret
                exact ⟨_, by rw [HF.out]; rfl, (here_next HFIN.out.1 _).1, by rw [HF.out]; rfl, ((Foot.of_below HWV.out HHw.out.le).trans (Foot.trans HFIN.out.2 (here_next HFIN.out.1 _).2))⟩
            -- region 9 ends
      · have e1 : (v.sg == x.nx) = false := by simpa using hsg
        have e2 : (v.sg != x.nx) = true := by simpa using hsg
        have HF := Lib.hid (HFA.out hsg)
        clear hsg
        go_upto_region 4 with fail
        go_quiet (fail)
        have HV := Lib.hid (show Below wc.heap.size wc (wc.drewN nq) from ⟨rfl, rfl, rfl, Nat.le_refl _, fun _ _ => rfl⟩)
        go_wp2
        go_ret
        exact ⟨x, by rw [HF.out]; rfl, HHc.out.below HV.out, by rw [HF.out], Foot.of_below (HWc.out.trans (HV.out.mono HWc.out.size)) HHw.out.le⟩
end Go.Proofs.YteejocnogpaifaaGreatDoor.Tt
