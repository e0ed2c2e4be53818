/-
  What the document's Find and Used answer, and an append of files onto a row of the call's own.
  Conditions: at most 300 files.
-/
import Derived.Test.YthfekmmcdfkigaaStoRefMath
import Derived.Laws.Cover1
import Derived.Sort.Walk0
namespace Go.Proofs.Ythfekmmcdfkigaa
open Go.RowKit
variable {P : Program}

theorem run_append_fils (w : World) (base : Nat) (t ty e : TypeId) (i : TypeInfo) (z : Value) (ht : P.underlying t = some (.slice e)) (hi : P.info? e = some i) (hz : i.zero = some z)
    (hsize : i.size = 4) (hby : i.bytes = 48) (hzs : z.cells.size = 4)
    (v : Value) (n : Nat) (xs : List Value) (hown : w.ownsRow base e 4 v n xs) (B : Nat) (A : Option Addr) (c : Nat) (l : List Fl) (hr : Fils w B A l)
    (hb : n + l.length ≤ 1000000) (hbase : base ≤ w.heap.size) :
    ∃ v' w', (Builtin.append_ #[t, t] ty #[v, .slice A l.length c]).run P w = .ok v' w' ∧ w'.ownsRow base e 4 v' (n + l.length) (xs ++ cellsF l) ∧ w.grownBy w' v.ownBlock ∧
      (v'.ownBlock = v.ownBlock ∨ v'.ownBlock = some w.heap.size) := by
  have key : ∀ a : Addr, A = some a → (∀ j u, (cellsF l)[j]? = some u → w.cell? (a.add j) = some u) → ∃ v' w', (Builtin.append_ #[t, t] ty #[v, .slice A l.length c]).run P w = .ok v' w' ∧
      w'.ownsRow base e 4 v' (n + l.length) (xs ++ cellsF l) ∧ w.grownBy w' v.ownBlock ∧ (v'.ownBlock = v.ownBlock ∨ v'.ownBlock = some w.heap.size) := by
    rintro a rfl hc
    obtain ⟨v', w', h1, h2, h3, _, h5⟩ := run_append_own_at (P := P) w base t ty e i z 4 48 ht hi hz hsize hby hzs (by omega) v n xs hown a l.length c (cellsF l) (cellsF_len l) hc (cellsF_one l)
      (by unfold maxLen; omega) (by omega) hbase
    exact ⟨v', w', h1, h2, h3, h5⟩
  by_cases hl : l = []
  · subst hl
    cases A with
    | some a => exact key a rfl (by simp [cellsF])
    | none =>
      refine ⟨v, w, ?_, by simpa [cellsF] using hown, World.grownBy.refl w _, .inl rfl⟩
      rcases hown.2 with ⟨rfl, rfl⟩ | ⟨g, cap, cur, rfl, _, _, hnc, _⟩
      · simp [Builtin.append_, run_underlying ht, sizeOf, typeInfo, hi, Builtin.lenOf, Builtin.firstCells]
      · simp [Builtin.append_, run_underlying ht, sizeOf, typeInfo, hi, Builtin.lenOf, Builtin.firstCells, hnc, storeCells]
  · obtain ⟨b, o, rfl, _, hc⟩ := hr hl
    refine key _ rfl fun j u hu => ?_
    rw [add_at]
    exact hc j u hu
theorem wp_append_fils (w : World) {o : Oper} {a : Act} {K : Act → World → Prop} {Q : Exit → Act → World → Prop} (s x : Operand) (t : TypeId)
    (ho : o.op = .call { callee := .builtin .append, args := #[s, x], argTypes := #[t, t] })
    (base : Nat) (e : TypeId) (i : TypeInfo) (z : Value) (ht : P.underlying t = some (.slice e)) (hi : P.info? e = some i) (hz : i.zero = some z) (hsize : i.size = 4) (hby : i.bytes = 48) (hzs : z.cells.size = 4)
    (v : Value) (n : Nat) (xs : List Value) (hs : a.eval s = v) (hown : w.ownsRow base e 4 v n xs) (B : Nat) (A : Option Addr) (m c : Nat) (l : List Fl) (hx : a.eval x = .slice A m c) (hm : m = l.length) (hr : Fils w B A l)
    (hb : n + l.length ≤ 1000000) (hbase : base ≤ w.heap.size)
    (h : ∀ v' w', w'.ownsRow base e 4 v' (n + l.length) (xs ++ cellsF l) → w.grownBy w' v.ownBlock → (v'.ownBlock = v.ownBlock ∨ v'.ownBlock = some w.heap.size) → K (a.put o.dst v') w') : o.wp P a w K Q := by
  subst hm
  obtain ⟨v', w', hrun, h2, h3, h4⟩ := run_append_fils (P := P) w base t o.type e i z ht hi hz hsize hby hzs v n xs hown B A c l hr hb hbase
  unfold Oper.wp execOp
  simp only [ho, resolve, invoke, builtin, Sem.run_bind, Sem.run_pure, Result.andThen_ok, List.map_toArray, List.map_cons, List.map_nil, hs, hx, hrun]
  exact h v' w' h2 h3 h4
theorem step_append_fils (w : World) {ops : Array Oper} {o : Oper} {a : Act} {K : Act → World → Prop} {Q : Exit → Act → World → Prop} {E : Prop} (hgd : o.guard = none) (s x : Operand) (t : TypeId)
    (ho : o.op = .call { callee := .builtin .append, args := #[s, x], argTypes := #[t, t] })
    (base : Nat) (e : TypeId) (i : TypeInfo) (z : Value) (ht : P.underlying t = some (.slice e)) (hi : P.info? e = some i) (hz : i.zero = some z) (hsize : i.size = 4) (hby : i.bytes = 48) (hzs : z.cells.size = 4)
    (v : Value) (n : Nat) (xs : List Value) (hs : a.eval s = v) (hown : w.ownsRow base e 4 v n xs) (B : Nat) (A : Option Addr) (m c : Nat) (l : List Fl) (hx : a.eval x = .slice A m c) (hm : m = l.length) (hr : Fils w B A l)
    (hb : n + l.length ≤ 1000000) (hbase : base ≤ w.heap.size)
    (h : ∀ v' w', w'.ownsRow base e 4 v' (n + l.length) (xs ++ cellsF l) → w.grownBy w' v.ownBlock → (v'.ownBlock = v.ownBlock ∨ v'.ownBlock = some w.heap.size) → K (a.put o.dst v') w') :
    if Region.wanted o (yielded ops a.tmps) = true then Oper.wp P o a w K Q else E := by
  have hw : Region.wanted o (yielded ops a.tmps) = true := by simp [Region.wanted, hgd]
  rw [if_pos hw]
  exact wp_append_fils w s x t ho base e i z ht hi hz hsize hby hzs v n xs hs hown B A m c l hx hm hr hb hbase h

theorem ret_int2 {a b : Int} (h : a = b) : Ending.returned (.int .i64 a) = .returned (.int .i64 b) := by rw [h]

/-! ### Used -/
def sumTo (fs : List Fl) (k : Nat) : Nat := usedF (fs.take k)
theorem sumTo_next {fs : List Fl} {k : Nat} (h : k < fs.length) : sumTo fs (k + 1) = sumTo fs k + fs[k].bs.length := by
  unfold sumTo usedF
  rw [List.take_succ_eq_append_getElem h, List.map_append, List.sum_append]
  simp only [List.map_cons, List.map_nil, List.sum_cons, List.sum_nil]
  omega
theorem sumTo_le (fs : List Fl) (k : Nat) : sumTo fs k ≤ usedF fs := by
  have : usedF fs = sumTo fs k + usedF (fs.drop k) := by
    unfold sumTo usedF
    rw [← List.sum_append, ← List.map_append, List.take_append_drop]
  omega
theorem rused_any (A : Option Addr) (fs : List Fl) (c : Nat) (w : World) (h : Fils w w.heap.size A fs) (hn : fs.length ≤ 300) (hu : usedF fs ≤ 16777216) :
    Calls Try.prog 16 #[.slice A fs.length c] w fun e w' => e = .returned (.int .i64 (usedF fs : Int)) ∧ w = w' := by
  have HF := Lib.hid h
  obtain ⟨n, hnn⟩ : ∃ n, n = fs.length := ⟨_, rfl⟩
  rw [← hnn] at hn ⊢
  have Hn := Lib.hid hnn
  clear h hnn
  go_enter Try.func16, Try.ntmps16
  go_wp2
  go_loop [3, 4] (fun v i => ∃ k u : Nat, k ≤ n ∧ i = .int .i64 k ∧ v = .int .i64 u ∧ Hid (u = sumTo fs k) ∧ u ≤ 16777216) (fun _ i => n - (intOf i).toNat)
  case atStart => exact ⟨0, 0, by omega, rfl, rfl, Lib.hid rfl, by omega⟩
  case round =>
    obtain ⟨k, u, hk, rfl, rfl, HU, hub⟩ := hrel
    by_cases hkn : k < n
    · have hkf : k < fs.length := by rw [← Hn.out]; exact hkn
      obtain ⟨b, o, rfl, hbl, c0, c1, c2, c3⟩ := HF.out.four hkf
      have hstep := sumTo_next hkf
      have hle := sumTo_le fs (k + 1)
      obtain ⟨q, hq⟩ : ∃ q, q = fs[k] := ⟨_, rfl⟩
      rw [← hq] at c0 c1 c2 c3 hstep
      have hsz : (str q.bs).size = q.bs.length := str_size _
      obtain ⟨s, hs⟩ : ∃ s, s = str q.bs := ⟨_, rfl⟩
      rw [← hs] at c1 hsz
      have hnew : u + s.size = sumTo fs (k + 1) := by rw [hstep, hsz, HU.out]
      have Hnew := Lib.hid hnew
      have hb2 : u + s.size ≤ 16777216 := by omega
      clear hq hs hsz hnew hstep hle
      go_wp2
      go_round
      case rel => exact ⟨k + 1, u + s.size, by omega, by go_num, by go_num, Hnew, hb2⟩
      case measure => simp [intOf]; omega
    · obtain rfl : n = k := by omega
      have hfin : u = usedF fs := by rw [HU.out, Hn.out]; simp [sumTo]
      have HFin := Lib.hid hfin
      clear hfin
      go_wp2
      go_ret
      exact ⟨ret_int2 (by rw [HFin.out]), rfl⟩

theorem info44 : (Try.prog.info? 44).map (fun i => (i.zero, i.size, i.bytes)) = some (some (.agg #[.string ⟨#[]⟩, .string ⟨#[]⟩, .int .i64 0, .bool false]), 4, 48) := by kernel_rfl

/-! ### Find -/
def FindIs (fs : List Fl) (x : List UInt8) (w : World) (e : Ending) (w' : World) : Prop :=
  ∃ (k : Nat) (b : Bool), e = .returned (.tuple #[.int .i64 (k : Int), .bool b]) ∧ Pos fs x k b ∧ ∃ m, w' = w.drewN m
theorem less_str (a : List UInt8) (s : ByteArray) : Op.bytesLess (str a).toList s.toList = decide (a < s.data.toList) := by rw [bytesLess_eq, str_list, ByteArray.toList_eq]
theorem eq_str (a : List UInt8) (s : ByteArray) : ((str a).toList == s.toList) = decide (a = s.data.toList) := by
  rw [str_list, ByteArray.toList_eq, Bool.eq_iff_iff]
  simp
set_option maxHeartbeats 1000000 in
set_option maxRecDepth 100000 in
theorem rfind_any (A : Option Addr) (fs : List Fl) (c : Nat) (s : ByteArray) (w : World) (h : Fils w w.heap.size A fs) (hn : fs.length ≤ 300) :
    Calls Try.prog 26 #[.slice A fs.length c, .string s] w (FindIs fs s.data.toList w) := by
  have HF := Lib.hid h
  obtain ⟨n, hnn⟩ : ∃ n, n = fs.length := ⟨_, rfl⟩
  rw [← hnn] at hn ⊢
  have Hn := Lib.hid hnn
  clear h hnn
  go_enter Try.func26, Try.ntmps26
  go_wp2
  go_loop [6] (fun i => ∃ k : Nat, k ≤ n ∧ i = .int .i64 k ∧ Hid (∀ j (h : j < fs.length), j < k → fs[j].name < s.data.toList)) (fun i => n - (intOf i).toNat)
  case atStart => exact ⟨0, by omega, rfl, Lib.hid (fun j _ hj => absurd hj (by omega))⟩
  case round =>
    obtain ⟨k, hk, rfl, HL⟩ := hrel
    by_cases hkn : k < n
    · have hkf : k < fs.length := by rw [← Hn.out]; exact hkn
      obtain ⟨b, o, rfl, hbl, c0, _⟩ := HF.out.four hkf
      have l1 := less_str fs[k].name s
      have l2 := eq_str fs[k].name s
      obtain ⟨q, hq⟩ : ∃ q, q = fs[k].name := ⟨_, rfl⟩
      rw [← hq] at c0 l1 l2
      have Hq := Lib.hid hq
      obtain ⟨t, ht⟩ : ∃ t, t = str q := ⟨_, rfl⟩
      rw [← ht] at c0 l1 l2
      have kd : decide (k < n) = true := by simpa using hkn
      clear hq ht
      by_cases hlt : q < s.data.toList
      · have z1 : Op.bytesLess t.toList s.toList = true := by rw [l1]; simpa using hlt
        have HN : Hid (∀ j (h : j < fs.length), j < k + 1 → fs[j].name < s.data.toList) := Lib.hid (fun j h hj => by
          rcases Nat.lt_or_ge j k with h1 | h1
          · exact HL.out j h h1
          · obtain rfl : j = k := by omega
            rw [← Hq.out]; exact hlt)
        clear l1 l2 hlt
        go_wp2
        go_round
        case rel => exact ⟨k + 1, by omega, by go_num, HN⟩
        case measure => simp [intOf]; omega
      · have z1 : Op.bytesLess t.toList s.toList = false := by rw [l1]; simpa using hlt
        by_cases heq : q = s.data.toList
        · have z2 : (t.toList == s.toList) = true := by rw [l2]; simpa using heq
          have HP : Hid (Pos fs s.data.toList k true) := Lib.hid ⟨by omega, HL.out, fun _ => ⟨hkf, by rw [← Hq.out]; exact heq⟩, fun h => by cases h⟩
          clear l1 l2 hlt heq Hq
          go_wp2
          go_quiet (fail)
          go_wp2
          go_ret2
          exact ⟨k, true, rfl, HP.out, _, rfl⟩
        · have z2 : (t.toList == s.toList) = false := by rw [l2]; simpa using heq
          have HP : Hid (Pos fs s.data.toList k false) := Lib.hid ⟨by omega, HL.out, (fun h => by cases h), fun _ _ => ⟨by rw [← Hq.out]; exact hlt, by rw [← Hq.out]; exact heq⟩⟩
          clear l1 l2 hlt heq Hq
          go_wp2
          go_quiet (fail)
          go_wp2
          go_ret2
          exact ⟨k, false, rfl, HP.out, _, rfl⟩
    · obtain rfl : n = k := by omega
      have kd : decide (n < n) = false := by simp
      have HP : Hid (Pos fs s.data.toList n false) := Lib.hid ⟨by rw [Hn.out]; exact Nat.le_refl _, HL.out, (fun h => by cases h), fun _ h => absurd h (by rw [Hn.out]; omega)⟩
      go_wp2
      go_quiet (fail)
      go_wp2
      go_ret2
      exact ⟨n, false, rfl, HP.out, _, rfl⟩
theorem rfind_at (A : Option Addr) (fs : List Fl) (c : Nat) (s : ByteArray) (k : Nat) (b : Bool) (w : World) (h : Fils w w.heap.size A fs) (hn : fs.length ≤ 300) (hp : Pos fs s.data.toList k b) :
    Calls Try.prog 26 #[.slice A fs.length c, .string s] w fun e w' => e = .returned (.tuple #[.int .i64 (k : Int), .bool b]) ∧ ∃ m, w' = w.drewN m := by
  refine (rfind_any A fs c s w h hn).mono ?_
  rintro e w' ⟨k', b', rfl, hp', m, hm⟩
  obtain ⟨rfl, rfl⟩ := pos_one hp hp'
  exact ⟨rfl, m, hm⟩
end Go.Proofs.Ythfekmmcdfkigaa
