/-
  What slices.Delete answers of one saga taken out of a row of one's own, and what forget of package state answers.
  Conditions: the state lies in a block and rows of its own, of moderate length.
-/
import Derived.Test.YteejocnogpaifaaGreatDoorStaFind
import Derived.Test.YteejocnogpaifaaGreatDoorStaOwn
import Derived.Test.YteejocnogpaifaaGreatDoorMrg2
import Derived.Shelf.Spec.SlicesInsert
import Derived.Deep.RegionLaw
import Derived.IntWalk
namespace Go.Proofs.YteejocnogpaifaaGreatDoor.Tt
open Go.RowKit Go.Lib
open Go.Proofs.YteejocnogpaifaaGreatDoor.El
open Go.Proofs.YteejocnogpaifaaGreatDoor.Df
open Go.Proofs.YteejocnogpaifaaGreatDoor.Bo (P Made ret_int ret_bool)
open Go.Proofs.YteejocnogpaifaaGreatDoor.Sa (Sg Cm overB)
open Go.Proofs.YteejocnogpaifaaGreatDoor.Co (Ev Mod)

theorem step_append_mid {Q0 : Program} {ops : Array Oper} {o : Oper} {a : Act} {w : World} {K : Act → World → Prop} {Q : Exit → Act → World → Prop} {E : Prop}
    (hg : o.guard = none) (s x : Operand) (t : TypeId) (hop : o.op = Op.call { callee := Callee.builtin Builtin.append, args := #[s, x], argTypes := #[t, t] })
    (e : TypeId) (i : TypeInfo) (size : Nat) (h1 : Q0.underlying t = some (.slice e)) (h2 : Q0.info? e = some i) (h4 : i.size = size) (g n cap : Nat) (cur : Array Value) (hs : a.eval s = .slice (some ⟨g, 0, none⟩) n cap) (hb : w.heap[g]? = some (.cells cur e (0, 0)))
    (ad : Addr) (m c : Nat) (news : List Value) (hx : a.eval x = .slice (some ad) m c) (hn : news.length = m * size) (hc : ∀ j u, news[j]? = some u → w.cell? (ad.add j) = some u) (h1c : ∀ u ∈ news, u.oneCell' = true)
    (hroom : n + m ≤ cap) (hfit : n * size + news.length ≤ cur.size) (hK : K (a.put o.dst (.slice (some ⟨g, 0, none⟩) (n + m) cap)) (w.setRow g (spl cur (n * size) news))) :
    if Region.wanted o (yielded ops a.tmps) = true then Oper.wp Q0 o a w K Q else E := by
  have hw : Region.wanted o (yielded ops a.tmps) = true := by simp [Region.wanted, hg]
  rw [if_pos hw]
  subst h4
  obtain ⟨cs, hcs⟩ : ∃ cs, cs = spl cur (n * i.size) news := ⟨_, rfl⟩
  have hrun : (Builtin.append_ #[t, t] o.type #[.slice (some ⟨g, 0, none⟩) n cap, .slice (some ad) m c]).run Q0 w = .ok (.slice (some ⟨g, 0, none⟩) (n + m) cap) (w.setRow g cs) := by
    rw [hcs]
    exact run_append_room (P := Q0) w t o.type e i h1 h2 g n cap cur hb ad m c news hn hc h1c hroom hfit
  rw [← hcs] at hK
  unfold Oper.wp
  simp [execOp, hop, resolve, invoke, builtin, hs, hx, hrun, Result.andThen]
  exact hK
theorem run_clear_mid {Q0 : Program} (w : World) (t ty e t' : TypeId) (z : Value) (b o c : Nat) (cur : Array Value) (hu : Q0.underlying t = some (.slice e)) (hz : ∀ w, (zeroValue e).run Q0 w = .ok z w) (hb : w.heap[b]? = some (.cells cur t' (0, 0))) (hf : o + z.cells.size ≤ cur.size) (h1 : ∀ v ∈ z.cells.toList, v.oneCell' = true) (hzc : (Builtin.zeroCells z.cells 1).toList = z.cells.toList) :
    (Builtin.clear_ #[t] ty #[.slice (some ⟨b, o, none⟩) 1 c]).run Q0 w = .ok (.tuple #[]) (w.setRow b (spl cur o z.cells.toList)) := by
  have hst := run_storeCells_at Q0 b o t' z.cells.toList 0 cur w hb (by simpa using hf) h1
  simp only [Nat.add_zero] at hst
  simp [Builtin.clear_, run_underlying hu, hz, hzc, hst, spl]
theorem zeroS_run (w : World) : (zeroValue 49).run Tryz.prog w = .ok zeroS w := by kernel_rfl
theorem sizeS_run (w : World) : (Go.sizeOf 49).run Tryz.prog w = .ok 9 w := by kernel_rfl
theorem cutS_to (W : World) (q n c k : Nat) (hk : k ≤ c) : (Instr.slice 25 (.slice (some ⟨q, 0, none⟩) n c) none (some (.int .i64 (k : Int))) none).run Tryz.prog W = .ok (.slice (some ⟨q, 0, none⟩) k c) W := by
  have ht' : Tryz.prog.underlying 25 = some (.slice (Tryz.prog.elem 25)) := by simp [Program.elem, Tryz.underlying25]
  have he : Tryz.prog.elem 25 = 49 := by simp [Program.elem, Tryz.underlying25]
  rw [run_slice_h W _ _ _ _ ht' .i64 _ (by omega) (by omega), he, sizeS_run]
  simp [Result.andThen, sliced, Addr.add]
theorem cutS_from (W : World) (A : Option Addr) (n c k : Nat) (hk : k ≤ n) :
    (Instr.slice 25 (.slice A n c) (some (.int .i64 (k : Int))) none none).run Tryz.prog W = .ok (.slice (if c = k then A else A.map (·.add (k * 9))) (n - k) (c - k)) W := by
  have ht' : Tryz.prog.underlying 25 = some (.slice (Tryz.prog.elem 25)) := by simp [Program.elem, Tryz.underlying25]
  have he : Tryz.prog.elem 25 = 49 := by simp [Program.elem, Tryz.underlying25]
  rw [run_slice_l W _ _ _ _ ht' .i64 _ (by omega) (by omega), he, sizeS_run]
  simp [Result.andThen, sliced]
theorem del_list {L X Z D : List Value} {a N : Nat} (hX : L.take N = X) (hD : D = X.drop (a + 9)) (ha : a + 9 ≤ N) (hN : N ≤ L.length) :
    (((L.take a ++ D ++ L.drop (a + D.length)).take (N - 9) ++ Z ++ (L.take a ++ D ++ L.drop (a + D.length)).drop (N - 9 + Z.length)).take (N - 9)) = X.take a ++ D := by
  have hXl : X.length = N := by rw [← hX, List.length_take]; omega
  have hd : D.length = N - 9 - a := by rw [hD, List.length_drop, hXl]; omega
  have hl : (L.take a ++ D).length = N - 9 := by rw [List.length_append, List.length_take, hd]; omega
  have e1 : (L.take a ++ D ++ L.drop (a + D.length)).take (N - 9) = X.take a ++ D := by
    rw [← hl, List.take_left, ← hX, List.take_take]
    congr 2
    omega
  have hl2 : (X.take a ++ D).length = N - 9 := by rw [List.length_append, List.length_take, hd, hXl]; omega
  rw [e1, List.append_assoc, ← hl2, List.take_left]
theorem del_flat (gs : List Sg) (i : Nat) : (gs.flatMap sgc).take (i * 9) ++ (gs.flatMap sgc).drop (i * 9 + 9) = (gs.eraseIdx i).flatMap sgc := by
  rw [show i * 9 + 9 = (i + 1) * 9 by omega, flat_take sg_len, flat_drop sg_len, ← List.flatMap_append, List.eraseIdx_eq_take_drop_succ]
/-- a row of one's own that has one less -/
def DelIs (w : World) (R n : Nat) (row : Option Nat) (xs : List Value) (A : Option Addr) (c : Nat) (e : Ending) (w' : World) : Prop :=
  e = .returned (.slice A (n - 1) c) ∧ w'.ownsRow R 49 9 (.slice A (n - 1) c) (n - 1) xs ∧ w.grownBy w' row
set_option maxHeartbeats 4000000 in
set_option maxRecDepth 100000 in
theorem delete_any (R : Nat) (A : Option Addr) (n c : Nat) (gs : List Sg) (i : Nat) (w : World) (hn : n = gs.length) (hb : n ≤ 1000000000) (ho : w.ownsRow R 49 9 (.slice A n c) n (gs.flatMap sgc)) (hi : i < n) :
    Calls Tryz.prog 48 #[.slice A n c, .int .i64 (i : Int), .int .i64 ((i : Int) + 1)] w (DelIs w R n (Value.slice A n c).ownBlock ((gs.eraseIdx i).flatMap sgc) A c) := by
  have hcap := own_cap ho
  obtain ⟨q, cur, rfl, hq, hbx, hsz, htk⟩ := own_at ho (by omega)
  obtain ⟨i0, hi0, hz0, hzs, hzb⟩ := info_of infoS
  have hX : (gs.flatMap sgc).length = n * 9 := by rw [flat_len sg_len, hn]
  have hcells := ho.cells (g := q) rfl
  have hone := flat_one sg_one gs
  obtain ⟨D, hD⟩ : ∃ D, D = (gs.flatMap sgc).drop (i * 9 + 9) := ⟨_, rfl⟩
  have hDl : D.length = (n - (i + 1)) * 9 := by rw [hD, List.length_drop, hX]; omega
  obtain ⟨cur1, hcur1⟩ : ∃ cur1, cur1 = spl cur (i * 9) D := ⟨_, rfl⟩
  have hs1 : cur1.size = c * 9 := by rw [hcur1, spl_size (by rw [hDl, hsz]; omega), hsz]
  have hbx1 : Box (w.drew.setRow q cur1) q 49 cur1 := Sa.box_row (show Box w.drew q 49 cur from hbx) cur1
  have hzl : zeroS.cells.toList.length = 9 := rfl
  obtain ⟨cur2, hcur2⟩ : ∃ cur2, cur2 = spl cur1 ((n - 1) * 9) zeroS.cells.toList := ⟨_, rfl⟩
  have hcl : ∀ (W : World), W.heap = (w.drew.setRow q cur1).heap → ∀ ty c', (Builtin.clear_ #[25] ty #[.slice (some ⟨q, (n - 1) * 9, none⟩) 1 c']).run Tryz.prog W = .ok (.tuple #[]) (W.setRow q cur2) := fun W hW ty c' => by
    rw [hcur2]
    exact run_clear_mid (Q0 := Tryz.prog) W 25 ty 49 49 zeroS q ((n - 1) * 9) c' cur1 Tryz.underlying25 zeroS_run (by rw [hW]; exact hbx1) (by rw [hs1]; show (n - 1) * 9 + 9 ≤ _; omega) (by
      intro v hv
      simp only [zeroS, Value.cells, List.mem_cons, List.not_mem_nil, or_false] at hv
      rcases hv with rfl | rfl | rfl | rfl | rfl | rfl | rfl | rfl | rfl <;> rfl) (by kernel_rfl)
  have HEND : Hid (∀ W : World, W.heap = (w.drew.setRow q cur1).heap → (W.setRow q cur2).ownsRow R 49 9 (.slice (some ⟨q, 0, none⟩) (n - 1) c) (n - 1) ((gs.eraseIdx i).flatMap sgc)) := Lib.hid fun W hW => by
    have hbW : Box W q 49 cur1 := by unfold Box; rw [hW]; exact hbx1
    refine ⟨by rw [flat_len sg_len, List.length_eraseIdx_of_lt (by omega)]; omega, .inr ⟨q, c, _, rfl, hq, Sa.box_row hbW cur2, by omega, hcap.2, by rw [hcur2, spl_size (by rw [hs1, hzl]; omega), hs1], ?_⟩⟩
    rw [← del_flat, ← hD]
    have := del_list (L := cur.toList) (X := gs.flatMap sgc) (Z := zeroS.cells.toList) (D := D) (a := i * 9) (N := n * 9) htk hD (by omega) (by rw [Array.length_toList, hsz]; omega)
    rw [hcur2, hcur1]
    rw [show n * 9 - 9 = (n - 1) * 9 by omega] at this
    exact this
  have HGR : Hid (∀ W : World, W.heap = (w.drew.setRow q cur1).heap → W.os = w.os → W.tape = w.tape → W.output = w.output → w.grownBy (W.setRow q cur2) (some q)) := Lib.hid fun W hW h1 h2 h3 =>
    ⟨h1, h2, h3, by rw [setRow_size, hW, setRow_size]; exact Nat.le_refl _, fun k _ hk => by
      have hkq : k ≠ q := fun e => hk (by rw [e])
      rw [setRow_other W q k cur2 hkq, hW, setRow_other w.drew q k cur1 hkq]
      rfl⟩
  have HD1 : Hid (∀ j u, D[j]? = some u → ∀ A2, A2 = (if c = i + 1 then some ⟨q, 0, none⟩ else (some ⟨q, 0, none⟩ : Option Addr).map (·.add ((i + 1) * 9))) → ∃ ad, A2 = some ad ∧ w.drew.cell? (ad.add j) = some u) := Lib.hid fun j u hj A2 hA2 => by
    have hjl := El.at_lt hj
    have hne : ¬ c = i + 1 := by omega
    rw [if_neg hne] at hA2
    refine ⟨_, hA2, ?_⟩
    rw [hD, List.getElem?_drop] at hj
    have h1 := hcells (i * 9 + 9 + j) u hj
    rw [Addr.add_lit, Nat.zero_add] at h1
    show w.drew.cell? (((⟨q, 0, none⟩ : Addr).add ((i + 1) * 9)).add j) = some u
    rw [Addr.add_lit, Addr.add_lit]
    show w.cell? ⟨q, 0 + (i + 1) * 9 + j, none⟩ = some u
    rw [show 0 + (i + 1) * 9 + j = i * 9 + 9 + j by omega]
    exact h1
  obtain ⟨A2, hA2⟩ : ∃ A2, A2 = (if c = i + 1 then some ⟨q, 0, none⟩ else (some ⟨q, 0, none⟩ : Option Addr).map (·.add ((i + 1) * 9))) := ⟨_, rfl⟩
  obtain ⟨ad, had⟩ : ∃ ad, A2 = some ad := by
    rw [hA2]
    split
    · exact ⟨_, rfl⟩
    · exact ⟨_, rfl⟩
  have HD2 : Hid (∀ j u, D[j]? = some u → w.drew.cell? (ad.add j) = some u) := Lib.hid fun j u hj => by
    obtain ⟨ad', h1, h2⟩ := HD1.out j u hj A2 hA2
    rw [had] at h1
    injection h1 with h1
    rw [h1]
    exact h2
  have HD3 : Hid (∀ u ∈ D, u.oneCell' = true) := Lib.hid fun u hu => hone u (by rw [hD] at hu; exact List.mem_of_mem_drop hu)
  have HDL := Lib.hid hDl
  have cut1 := fun W => cutS_to W q n c i (by omega)
  have cut2 : ∀ W, (Instr.slice 25 (.slice (some ⟨q, 0, none⟩) n c) (some (.int .i64 ((i : Int) + 1))) none none).run Tryz.prog W = .ok (.slice (some ad) (n - (i + 1)) (c - (i + 1))) W := fun W => by
    have h := cutS_from W (some ⟨q, 0, none⟩) n c (i + 1) (by omega)
    rw [← hA2, had] at h
    rw [← h]
    congr 2
  have HB := Lib.hid hbx
  have HFIT : Hid (i * 9 + D.length ≤ cur.size) := Lib.hid (by rw [hDl, hsz]; omega)
  have HCUR := Lib.hid hcur1
  have hc63 : c ≤ 9223372036854775807 := by have := hcap.2; unfold maxLen at this; omega
  have hnc : n ≤ c := hcap.1
  have hroom : i + (n - (i + 1)) ≤ c := by omega
  have hsum : i + (n - (i + 1)) = n - 1 := by omega
  have HSUM := Lib.hid hsum
  have hin1 : (i : Int) + 1 ≤ (n : Int) := by omega
  have hb1 : (0 : Int) ≤ (i : Int) + 1 := by omega
  have htn : ((i : Int) + 1).toNat = i + 1 := by omega
  have hne1 : ¬ ((i : Int) = (i : Int) + 1) := by omega
  have mixed : Tryz.prog.follows .mixedOrders = true := by kernel_rfl
  generalize (gs.eraseIdx i).flatMap sgc = XS at *
  clear hX hcells hone hsz htk hn ho hbx hbx1 hs1 hzl hcur2 hcur1 hD hDl hA2 had HD1 hcap hsum
  go_enter Tryz.func48, Tryz.ntmps48
  go_upto_region 5 with fail
  go_region_law_o (refine step_append_mid rfl _ _ 25 rfl 49 i0 9 Tryz.underlying25 hi0 hzs q i c cur (by simp [Act.eval, Act.put]) HB.out ad (n - (i + 1)) (c - (i + 1)) D (by simp [Act.eval, Act.put]) HDL.out HD2.out HD3.out hroom HFIT.out ?_)
  rw [← HCUR.out, HSUM.out]
  have hn1 : n - (n - 1) = 1 := by omega
  have hcn : ¬ (c = n - 1) := by omega
  have hle : n - 1 ≤ n := by omega
  have hle2 : n - 1 ≤ c := by omega
  have hE := hcl (w.drew.setRow q cur1) rfl
  clear hcl
  go_wp2
  go_ret
  exact ⟨rfl, HEND.out _ rfl, HGR.out _ rfl rfl rfl rfl⟩

section
variable {w w2 w3 : World} {g R : Nat} {x : SV}
/-- an own row of another type stays where one row turns, and the state's block -/
theorem row_keepsT {T e : TypeId} {k n : Nat} {v : Value} {xs : List Value} {q : Option Nat} {u : Value} {i : Nat} (h2 : w2.ownsRow R e k v n xs) (hgR : g < R) (hg : w2.grownBy w3 q) (hq : ∀ b, q = some b → ∃ cur, Box w2 b T cur) (he : e ≠ T) :
    (w3.setCell ⟨g, i, none⟩ u).ownsRow R e k v n xs := own_stay h2 fun j hj => by
  obtain ⟨h1, cur, hc⟩ := own_blk h2 hj
  have hl := hc.lt
  refine (Below.heap_setCell w3 ⟨g, i, none⟩ u j (by show j ≠ g; omega)).trans (hg.block j hl (fun e => ?_))
  obtain ⟨cur', hc'⟩ := hq j e.symm
  exact (Box.apart hc hc' he) rfl
/-- the sagas' row has turned: a state of one's own that has it -/
theorem here_row {AS' : Option Addr} {nS' cS' : Nat} {gs' : List Sg} (h : Here w g R x) (hb2 : Below w.heap.size w w2) (hg3 : w2.grownBy w3 (Value.slice x.AS x.nS x.cS).ownBlock) (hn : nS' = gs'.length) (hown3 : w3.ownsRow R 49 9 (.slice AS' nS' cS') nS' (gs'.flatMap sgc)) :
    Here (w3.setCell ⟨g, 1, none⟩ (.slice AS' nS' cS')) g R ⟨x.AD, x.nD, x.cD, AS', nS', cS', x.nx, x.dx, gs'⟩ ∧ Foot g R w (w3.setCell ⟨g, 1, none⟩ (.slice AS' nS' cS')) := by
  have h2 := h.below hb2
  have hs3 := hg3.size
  have hq : ∀ b, (Value.slice x.AS x.nS x.cS).ownBlock = some b → ∃ cur, Box w2 b 49 cur := fun b hb => (own_blk h2.own.oS hb).2
  have hgq : (Value.slice x.AS x.nS x.cS).ownBlock ≠ some g := fun e => by have := (own_blk h2.own.oS e).1; have := h.lt; omega
  have hgl := h2.box.lt
  have hbox : Box w3 g 27 x.arr := (hg3.block g hgl (fun e => hgq e.symm)).trans h2.box
  refine ⟨⟨hbox.put 1 _, ⟨h.own.lD, hn, row_keepsT h2.own.oD h.lt hg3 hq (by decide), ?_, fun d hd => ⟨(h2.own.oT d hd).1, (h2.own.oT d hd).2.1, row_keepsT (h2.own.oT d hd).2.2 h.lt hg3 hq (by decide)⟩⟩, h.lt, by have := h2.le; simp [World.setCell]; omega⟩, ?_⟩
  · exact own_stay hown3 fun i hi => Below.heap_setCell w3 ⟨g, 1, none⟩ _ i (by have := (own_blk hown3 hi).1; have := h.lt; show i ≠ g; omega)
  · exact ((Foot.of_below hb2 h.le).trans (Foot.of_grown hg3 h2.le fun i hi => .inl (own_blk h2.own.oS hi).1)).put (.inl rfl) 1 _
/-- the state's block and its cells behind the turn of a row of sagas -/
theorem here_cell (h : Here w2 g R x) (hg3 : w2.grownBy w3 (Value.slice x.AS x.nS x.cS).ownBlock) : Box w3 g 27 x.arr :=
  (hg3.block g h.box.lt (fun e => by have := (own_blk h.own.oS e.symm).1; have := h.lt; omega)).trans h.box
end
/-- what forget answers -/
def ForIs (w : World) (g R : Nat) (x : SV) (id : Int) (e : Ending) (w' : World) : Prop :=
  ∃ y : SV, e = .returned (.int .i64 (forgetS x.st id).2) ∧ Here w' g R y ∧ y.st = (forgetS x.st id).1 ∧ Foot g R w w'
theorem findS_cases (gs : List Sg) (id : Int) : findS gs id = -1 ∨ ∃ (i : Nat) (s : Sg), findS gs id = (i : Int) ∧ gs[i]? = some s ∧ s.id = id ∧ i < gs.length := by
  rcases idx_cases (numbered id) gs with ⟨h, _⟩ | ⟨i, s, h, hs, hp, hl, _⟩
  · exact .inl h
  · exact .inr ⟨i, s, h, hs, of_decide_eq_true hp, hl⟩
theorem forgetS_none {x : SV} {id : Int} (h : findS x.gs id = -1) : forgetS x.st id = (x.st, 7) := by
  unfold forgetS
  rw [if_pos (by show findS x.gs id < 0; omega)]
theorem forgetS_live {x : SV} {id : Int} {i : Nat} {s : Sg} (h : findS x.gs id = (i : Int)) (hs : x.gs[i]? = some s) (ho : overB s = false) : forgetS x.st id = (x.st, 9) := by
  unfold forgetS
  rw [if_neg (by show ¬ findS x.gs id < 0; omega)]
  show (if overB (sgOf x.gs (findS x.gs id)) = false then _ else _) = _
  rw [h, sgOf_is hs, if_pos ho]
theorem forgetS_over {x : SV} {id : Int} {i : Nat} {s : Sg} (h : findS x.gs id = (i : Int)) (hs : x.gs[i]? = some s) (ho : overB s = true) : forgetS x.st id = (⟨x.dx.map DX.m, x.gs.eraseIdx i, x.nx⟩, 0) := by
  unfold forgetS
  rw [if_neg (by show ¬ findS x.gs id < 0; omega)]
  show (if overB (sgOf x.gs (findS x.gs id)) = false then _ else ((⟨x.dx.map DX.m, x.gs.eraseIdx (findS x.gs id).toNat, x.nx⟩ : Ms), (0 : Int))) = _
  rw [h, sgOf_is hs, if_neg (by rw [ho]; simp), Int.toNat_natCast]
set_option maxHeartbeats 4000000 in
set_option maxRecDepth 100000 in
theorem forget_any (x : SV) (g R : Nat) (id : Int) (w : World) (h : Here w g R x) (hb : x.nS ≤ 1000000000) : Calls Tryz.prog 19 #[.pointer (some ⟨g, 0, none⟩), .int .i64 id] w (ForIs w g R x id) := by
  have HH := Lib.hid h
  have HP := Lib.hid (placeS_any x.AS x.nS x.cS x.gs id w h.own.lS (by omega) h.own.sin.hS)
  obtain ⟨c0, c1, c2⟩ := h.cells
  have hgl : g < w.heap.size := h.box.lt
  clear h
  rcases findS_cases x.gs id with hf | ⟨i, s, hf, hs, hid, hil⟩
  · rw [hf] at HP
    have HF := Lib.hid (forgetS_none hf)
    clear hf
    go_enter Tryz.func19, Tryz.ntmps19
    go_wp2_with (go_at_call 45; (with_reducible refine HP.out.mono ?_); rintro e w1 ⟨rfl, hm⟩; have hw1 := hm.below; clear hm)
    go_ret
    exact ⟨x, by rw [HF.out]; rfl, HH.out.below hw1, by rw [HF.out], Foot.of_below hw1 HH.out.le⟩
  · rw [hf] at HP
    clear hid
    have hne : ((i : Int) == -1) = false := by simp only [beq_eq_false_iff_ne, ne_eq]; omega
    have hin : i < x.nS := by have := HH.out.own.lS; omega
    obtain ⟨q, cur, hA, _⟩ := own_at HH.out.own.oS (by omega)
    have HS := Lib.hid hs
    have HQ := Lib.hid hA
    rw [hA] at HP c1
    have HO := Lib.hid (fun W => Sa.over_any s W)
    have HA : Hid (∀ W, Below w.heap.size w W → W.cell? ⟨q, i * 9, none⟩ = some (.int .i64 s.id) ∧ W.cell? ⟨q, i * 9 + 1, none⟩ = some (.string s.dn) ∧ W.cell? ⟨q, i * 9 + 2, none⟩ = some (.int .i64 s.st) ∧ W.cell? ⟨q, i * 9 + 3, none⟩ = some (.int .i64 s.ph) ∧ W.cell? ⟨q, i * 9 + 4, none⟩ = some (.int .i64 s.sp) ∧ W.cell? ⟨q, i * 9 + 5, none⟩ = some (.int .i64 s.tr) ∧ W.cell? ⟨q, i * 9 + 6, none⟩ = some (.bool s.out) ∧ W.cell? ⟨q, i * 9 + 7, none⟩ = some (.int .i64 s.at_) ∧ W.cell? ⟨q, i * 9 + 8, none⟩ = some (.int .i64 s.sk)) := Lib.hid fun W hW => by
      have hE := (HH.out.below hW).own.sin.hS
      rw [HQ.out] at hE
      have k0 := hE.get HS.out 0 rfl
      have k1 := hE.get HS.out 1 rfl
      have k2 := hE.get HS.out 2 rfl
      have k3 := hE.get HS.out 3 rfl
      have k4 := hE.get HS.out 4 rfl
      have k5 := hE.get HS.out 5 rfl
      have k6 := hE.get HS.out 6 rfl
      have k7 := hE.get HS.out 7 rfl
      have k8 := hE.get HS.out 8 rfl
      rw [Nat.zero_add] at k0 k1 k2 k3 k4 k5 k6 k7 k8
      exact ⟨k0, k1, k2, k3, k4, k5, k6, k7, k8⟩
    have HC : Hid (∀ W, Below w.heap.size w W → W.cell? ⟨g, 1, none⟩ = some (.slice (some ⟨q, 0, none⟩) x.nS x.cS)) := Lib.hid fun W hW => by
      have := (HH.out.below hW).cells.2.1
      rw [HQ.out] at this
      exact this
    clear hA hs
    cases ho : overB s with
    | false =>
      have HF := Lib.hid (forgetS_live hf HS.out ho)
      rw [ho] at HO
      clear hf hil ho
      go_enter Tryz.func19, Tryz.ntmps19
      go_wp2_with (first
        | (go_at_call 45; (with_reducible refine HP.out.mono ?_); rintro e w1 ⟨rfl, hm⟩; have hw1 := hm.below; clear hm; have c11 := HC.out w1 hw1; obtain ⟨k0, k1, k2, k3, k4, k5, k6, k7, k8⟩ := HA.out w1 hw1)
        | (go_at_call 47; (with_reducible refine (HO.out _).mono ?_); rintro e w2 ⟨rfl, hm⟩; have hw2 := hw1.trans (hm.below.mono hw1.size); clear hm))
      go_ret
      exact ⟨x, by rw [HF.out]; rfl, HH.out.below hw2, by rw [HF.out], Foot.of_below hw2 HH.out.le⟩
    | true =>
      have HF := Lib.hid (forgetS_over hf HS.out ho)
      rw [ho] at HO
      clear hf hil ho
      go_enter Tryz.func19, Tryz.ntmps19
      go_wp2_with (first
        | (go_at_call 45; (with_reducible refine HP.out.mono ?_); rintro e w1 ⟨rfl, hm⟩; have hw1 := hm.below; clear hm; have c11 := HC.out w1 hw1; obtain ⟨k0, k1, k2, k3, k4, k5, k6, k7, k8⟩ := HA.out w1 hw1)
        | (go_at_call 47; (with_reducible refine (HO.out _).mono ?_); rintro e w2 ⟨rfl, hm⟩; have hw2 := hw1.trans (hm.below.mono hw1.size); clear hm; have c21 := HC.out w2 hw2; have HD := Lib.hid (delete_any R x.AS x.nS x.cS x.gs i w2 HH.out.own.lS hb (HH.out.below hw2).own.oS hin); rw [HQ.out] at HD)
        | (go_at_call 48; (with_reducible refine HD.out.mono ?_); rintro e w3 ⟨rfl, ho3, hg3⟩; rw [← HQ.out] at ho3 hg3; have HFIN := Lib.hid (here_row (gs' := x.gs.eraseIdx i) HH.out hw2 hg3 (by rw [List.length_eraseIdx_of_lt (by have := HH.out.own.lS; omega)]; have := HH.out.own.lS; omega) ho3); have HB3 := Lib.hid (here_cell (HH.out.below hw2) hg3); have c31 := HB3.out.cell 1; have f31 := HB3.out.frozen 1; clear ho3 hg3))
      go_ret
      rw [← HQ.out]
      exact ⟨_, by rw [HF.out]; rfl, HFIN.out.1, by rw [HF.out]; rfl, HFIN.out.2⟩
end Go.Proofs.YteejocnogpaifaaGreatDoor.Tt
