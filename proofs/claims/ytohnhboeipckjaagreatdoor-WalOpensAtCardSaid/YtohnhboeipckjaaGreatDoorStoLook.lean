/-
  What the store's find answers, and the laws of its map at the look-up, the store and the delete.
  Conditions: the store is one; names are at most 2^40 bytes.
-/
import Derived.Test.YtohnhboeipckjaaGreatDoorStoCalls
namespace Go.Proofs.YtohnhboeipckjaaGreatDoor
open Go.RowKit Go.Maps

theorem lawK : Keyed Tryz.prog 9 := string_keyed Tryz.underlying9
theorem zeroF (w : World) : (zeroValue 72).run Tryz.prog w = .ok (fileV (.slice none 0 0) 0 false) w := by kernel_rfl
/-- what the map has at a name -/
def lookV (rs : List RF) (x : List UInt8) : Value × Bool :=
  match lookBy RF.nm x rs with
  | some r => (fileV r.v r.fl.safe r.fl.stays, true)
  | none => (fileV (.slice none 0 0) 0 false, false)
theorem lookV_some {rs : List RF} {x : List UInt8} {r : RF} (h : lookBy RF.nm x rs = some r) : lookV rs x = (fileV r.v r.fl.safe r.fl.stays, true) := by simp [lookV, h]
theorem lookV_none {rs : List RF} {x : List UInt8} (h : lookBy RF.nm x rs = none) : lookV rs x = (fileV (.slice none 0 0) 0 false, false) := by simp [lookV, h]

section
variable {w : World} {g bm : Nat} {X : Nat → Prop} {rs : List RF} {cap fuse : Nat} {down : Bool}
theorem Raw.look (h : Raw w g X bm rs cap fuse down) (s : ByteArray) (hs : s.size ≤ maxLen) (c : Bool) :
    (Instr.lookup 57 (.map (some bm)) (.string s) c).run Tryz.prog w = .ok (if c then .tuple #[(lookV rs s.data.toList).1, .bool (lookV rs s.data.toList).2] else (lookV rs s.data.toList).1) w := by
  obtain ⟨es, hown, hp⟩ := h.map
  have hkey := WideMaps.keyOf_string_mk Tryz.underlying9 hs
  have hat := at_ent hp h.rise s.data.toList (.held (fileV (.slice none 0 0) 0 false))
  have hhas := has_ent hp s.data.toList
  have val : ∀ {v : Value} {ps : List MemPlace}, rawElem v = some ((DataW.map es).atKey (.string s.data.toList) (.held (fileV (.slice none 0 0) 0 false)), ps) → v = (lookV rs s.data.toList).1 := by
    intro v ps hv
    have e := rawElem_inv hv
    rw [hat] at e
    unfold lookV
    cases hl : lookBy RF.nm s.data.toList rs with
    | none => rw [hl] at e; exact (DataW.held.inj e).symm
    | some r => rw [hl] at e; exact (DataW.held.inj e).symm
  cases c with
  | false =>
    obtain ⟨v, ps, hrun, hv⟩ := hown.lookup lawK Tryz.underlying57 (zeroF w) (zd := .held (fileV (.slice none 0 0) 0 false)) rfl hkey
    rw [hrun, val hv]
    rfl
  | true =>
    obtain ⟨v, ps, hrun, hv⟩ := hown.look_ok lawK Tryz.underlying57 (zeroF w) (zd := .held (fileV (.slice none 0 0) 0 false)) rfl hkey
    rw [hrun, val hv, hhas]
    have : (lookBy RF.nm s.data.toList rs).isSome = (lookV rs s.data.toList).2 := by
      unfold lookV
      cases lookBy RF.nm s.data.toList rs <;> rfl
    rw [this]
    rfl
end
section
variable (w : World) {ops : Array Oper} {rest : List Oper} {o : Oper} {a : Act} {Q : Exit → Act → World → Prop} {g bm : Nat} {X : Nat → Prop} {rs : List RF} {cap fuse : Nat} {down : Bool}
/-- v, ok := m[k] -/
theorem wpList_look_ok (hg : o.guard = none) (m x : Operand) (hop : o.op = Op.lookup 57 m x true) (h : Raw w g X bm rs cap fuse down) (hm : a.eval m = .map (some bm)) (s : ByteArray) (hx : a.eval x = .string s) (hs : s.size ≤ maxLen)
    {V : Value} {b : Bool} (hV : lookV rs s.data.toList = (V, b)) (hK : wpList Tryz.prog ops Q rest (a.put o.dst (.tuple #[V, .bool b])) w) : wpList Tryz.prog ops Q (o :: rest) a w := by
  refine wpList_plain hg fun K' hK' => ?_
  have hrun := h.look s hs true
  rw [hV] at hrun
  unfold Oper.wp
  simp [execOp, hop, hm, hx, hrun, Result.andThen]
  exact hK' _ _ hK
/-- m[k] -/
theorem wpList_look (hg : o.guard = none) (m x : Operand) (hop : o.op = Op.lookup 57 m x false) (h : Raw w g X bm rs cap fuse down) (hm : a.eval m = .map (some bm)) (s : ByteArray) (hx : a.eval x = .string s) (hs : s.size ≤ maxLen)
    {V : Value} {b : Bool} (hV : lookV rs s.data.toList = (V, b)) (hK : wpList Tryz.prog ops Q rest (a.put o.dst V) w) : wpList Tryz.prog ops Q (o :: rest) a w := by
  refine wpList_plain hg fun K' hK' => ?_
  have hrun := h.look s hs false
  rw [hV] at hrun
  unfold Oper.wp
  simp [execOp, hop, hm, hx, hrun, Result.andThen]
  exact hK' _ _ hK
/-- len(m) -/
theorem wpList_mlen (hg : o.guard = none) (m : Operand) (hop : o.op = Op.call { callee := Callee.builtin Builtin.len, args := #[m], argTypes := #[57] }) (h : Raw w g X bm rs cap fuse down) (hm : a.eval m = .map (some bm))
    (hK : wpList Tryz.prog ops Q rest (a.put o.dst (.int .i64 (rs.length : Int))) w) : wpList Tryz.prog ops Q (o :: rest) a w := by
  obtain ⟨es, hown, hp⟩ := h.map
  refine wpList_len_own w hg m 57 hop 9 72 Tryz.underlying57 rawElem bm rs.length _ hm hown ?_
  have : Maps.size (DataW.map es) = rs.length := by rw [Maps.size_eq, hp.length_eq, List.length_map]
  rw [this]
  exact hK
/-- m[k] = v: only the file's own row has turned since the store was whole, or a new one has been made -/
theorem wpList_mput {w1 : World} {row : Option Nat} (hg : o.guard = none) (m x y : Operand) (hop : o.op = Op.mapUpdate 57 m x y) (h : Raw w g X bm rs cap fuse down) (hm : a.eval m = .map (some bm)) (s : ByteArray) (hx : a.eval x = .string s) (hs : s.size ≤ maxLen) (r : RF)
    (hn : r.fl.name = s.data.toList) (hy : a.eval y = fileV r.v r.fl.safe r.fl.stays) (hw : w.grownBy w1 row) (hrow : ∀ i, row = some i → ∃ r0 ∈ rs, r0.nm = r.nm ∧ r0.v.ownBlock = some i)
    (hown : w1.ownsRow 0 5 1 r.v r.fl.bs.length (cellsB r.fl.bs)) (hblk : ∀ i, r.v.ownBlock = some i → (∃ r0 ∈ rs, r0.nm = r.nm ∧ r0.v.ownBlock = some i) ∨ (¬ X i ∧ ∀ q ∈ rs, q.v.ownBlock ≠ some i))
    (hok : St.Ok ⟨putBy Fl.name r.fl (rs.map RF.fl), cap, fuse, down⟩)
    (hK : ∀ w', Raw w' g X bm (putBy RF.nm r rs) cap fuse down → Keep X w w' → w1.mapTurned w' bm → wpList Tryz.prog ops Q rest (a.put o.dst undef) w') : wpList Tryz.prog ops Q (o :: rest) a w1 := by
  obtain ⟨es, hom, hp⟩ := h.map
  have hrm : row ≠ some bm := fun e => by obtain ⟨r0, hr0, _, e0⟩ := hrow bm e; exact h.om hr0 e0
  have hom1 := hom.kept hw (fun e => hrm e.symm)
  have hkey : keyOf Tryz.prog 9 (.string s) = some (.string r.fl.name) := by rw [hn]; exact WideMaps.keyOf_string_mk Tryz.underlying9 hs
  have hl := h.len
  obtain ⟨w', hrun, hm', ht⟩ := hom1.store lawK Tryz.underlying57 (by unfold maxLen; omega) hkey (val := fileV r.v r.fl.safe r.fl.stays) (d := .held (fileV r.v r.fl.safe r.fl.stays)) (ps := []) rfl
  obtain ⟨hR, hkp⟩ := h.put hw hrow hown hblk hp hm' ht hok
  refine wpList_plain hg fun K' hK' => ?_
  unfold Oper.wp
  simp [execOp, hop, hm, hx, hy, hrun, Result.andThen]
  exact hK' _ _ (hK w' hR hkp ht)
/-- delete(m, k) -/
theorem wpList_mdel (hg : o.guard = none) (m x : Operand) (hop : o.op = Op.call { callee := Callee.builtin Builtin.delete, args := #[m, x], argTypes := #[57, 9] }) (h : Raw w g X bm rs cap fuse down) (hm : a.eval m = .map (some bm))
    (s : ByteArray) (hx : a.eval x = .string s) (hs : s.size ≤ maxLen) (hok : St.Ok ⟨delBy Fl.name s.data.toList (rs.map RF.fl), cap, fuse, down⟩)
    (hK : ∀ w', Raw w' g X bm (delBy RF.nm s.data.toList rs) cap fuse down → Keep X w w' → wpList Tryz.prog ops Q rest (a.put o.dst (.tuple #[])) w') : wpList Tryz.prog ops Q (o :: rest) a w := by
  obtain ⟨es, hom, hp⟩ := h.map
  refine wpList_delete_own w hg m x 57 9 hop 72 lawK Tryz.underlying57 rawElem bm rs.length _ hm hom _ _ hx (WideMaps.keyOf_string_mk Tryz.underlying9 hs) ?_
  intro w' hm' ht
  obtain ⟨hR, hkp⟩ := h.del hp hm' ht hok
  exact hK w' hR hkp
end

theorem Raw.mlen {w : World} {g bm : Nat} {X : Nat → Prop} {rs : List RF} {cap fuse : Nat} {down : Bool} (h : Raw w g X bm rs cap fuse down) (ty : TypeId) :
    (Builtin.len_ #[57] ty #[.map (some bm)]).run Tryz.prog w = .ok (.int .i64 (rs.length : Int)) w := by
  obtain ⟨es, hown, hp⟩ := h.map
  have : Maps.size (DataW.map es) = rs.length := by rw [Maps.size_eq, hp.length_eq, List.length_map]
  rw [hown.len Tryz.underlying57 ty, this]

/-! ### find -/
theorem res_file_tmp {fn : Func} {p u : Tmp} (h : fn.results = #[.cell p 72, .tmp u]) (tmps : Array Value) (w : World) (g : Nat) (v : Value) (n : Nat) (b : Bool)
    (hp : tmps.getD p undef = .pointer (some ⟨g, 0, none⟩)) (hg : Box w g 72 #[v, .int .i64 (n : Int), .bool b]) :
    (results fn tmps).run Tryz.prog w = .ok (.tuple #[fileV v n b, tmps.getD u undef]) w := by
  rw [results_cell_tmp h]
  rw [hp]
  simp only [asAddr, Sem.run_pure, Result.andThen_ok, run_loadVar_row w g _ 72 _ _ _ hg Tryz.underlying72 rfl (size_file v n b)]
  rfl
theorem find_down (g bm : Nat) (X : Nat → Prop) (rs : List RF) (cap fuse : Nat) (s : ByteArray) (w : World) (h : Raw w g X bm rs cap fuse true) :
    Calls Tryz.prog 41 #[.pointer (some ⟨g, 0, none⟩), .string s] w fun e w' => e = .returned (.tuple #[.agg #[.slice none 0 0, .int .i64 0, .bool false], .int .i64 12]) ∧ Below w.heap.size w w' := by
  have h3 : w.cell? ⟨g, 3, none⟩ = some (.bool true) := h.box.cell 3
  have hgl := h.box.lt
  go_enter Tryz.func41, Tryz.ntmps41
  go_wp2
  refine bodyPost_ret (res_file_tmp rfl _ _ w.heap.size (.slice none 0 0) 0 false rfl ?_) rfl ⟨rfl, ?_⟩
  · exact Box.new w _ _
  · exact (Below.refl _ _).alloc (Nat.le_refl _) _
theorem find_none (g bm : Nat) (X : Nat → Prop) (rs : List RF) (cap fuse : Nat) (s : ByteArray) (w : World) (h : Raw w g X bm rs cap fuse false) (hs : s.size ≤ 1099511627776) (hl : lookBy RF.nm s.data.toList rs = none) :
    Calls Tryz.prog 41 #[.pointer (some ⟨g, 0, none⟩), .string s] w fun e w' => e = .returned (.tuple #[.agg #[.slice none 0 0, .int .i64 0, .bool false], .int .i64 7]) ∧ Below w.heap.size w w' := by
  have h0 : w.cell? ⟨g, 0, none⟩ = some (.map (some bm)) := h.box.cell 0
  have h3 : w.cell? ⟨g, 3, none⟩ = some (.bool false) := h.box.cell 3
  have hgl := h.box.lt
  have hb1 := fun o => (Below.refl w.heap.size w).alloc (Nat.le_refl _) o
  have hv : lookV rs s.data.toList = (.agg #[.slice none 0 0, .int .i64 0, .bool false], false) := lookV_none hl
  have HV := Lib.hid hv
  have HR := Lib.hid h
  clear hl h hv
  go_enter Tryz.func41, Tryz.ntmps41
  go_wp2_with (at_lookup; refine wpList_look_ok _ rfl _ _ rfl (HR.out.below (hb1 _)) rfl s rfl (by unfold maxLen; omega) HV.out ?_)
  refine bodyPost_ret (res_file_tmp rfl _ _ w.heap.size (.slice none 0 0) 0 false rfl ?_) rfl ⟨rfl, ?_⟩
  · exact (Box.new w _ _).alloc _
  · exact ((Below.refl _ _).alloc (Nat.le_refl _) _).alloc (by simp) _
theorem find_some (g bm : Nat) (X : Nat → Prop) (rs : List RF) (cap fuse : Nat) (s : ByteArray) (r : RF) (A : Option Addr) (n c : Nat) (w : World) (h : Raw w g X bm rs cap fuse false) (hs : s.size ≤ 1099511627776) (hl : lookBy RF.nm s.data.toList rs = some r)
    (hv : r.v = .slice A n c) :
    Calls Tryz.prog 41 #[.pointer (some ⟨g, 0, none⟩), .string s] w fun e w' => e = .returned (.tuple #[.agg #[.slice A n c, .int .i64 (r.fl.safe : Int), .bool r.fl.stays], .int .i64 0]) ∧ Below w.heap.size w w' := by
  have h0 : w.cell? ⟨g, 0, none⟩ = some (.map (some bm)) := h.box.cell 0
  have h3 : w.cell? ⟨g, 3, none⟩ = some (.bool false) := h.box.cell 3
  have hgl := h.box.lt
  have hb1 := fun o => (Below.refl w.heap.size w).alloc (Nat.le_refl _) o
  obtain ⟨sf, hsf⟩ : ∃ x, x = r.fl.safe := ⟨_, rfl⟩
  obtain ⟨sy, hsy⟩ : ∃ x, x = r.fl.stays := ⟨_, rfl⟩
  have hv : lookV rs s.data.toList = (.agg #[.slice A n c, .int .i64 (sf : Int), .bool sy], true) := by rw [hsf, hsy, lookV_some hl, hv]; rfl
  have HV := Lib.hid hv
  have HR := Lib.hid h
  rw [← hsf, ← hsy]
  clear hl h hv hsf hsy
  go_enter Tryz.func41, Tryz.ntmps41
  go_wp2_with (at_lookup; refine wpList_look_ok _ rfl _ _ rfl (HR.out.below (hb1 _)) rfl s rfl (by unfold maxLen; omega) HV.out ?_)
  refine bodyPost_ret (res_file_tmp rfl _ _ w.heap.size (.slice A n c) sf sy rfl ?_) rfl ⟨rfl, ?_⟩
  · exact (Box.new w _ _).alloc _
  · exact ((Below.refl _ _).alloc (Nat.le_refl _) _).alloc (by simp) _

/-! ### Free -/
/-- how many bytes the files still to come have -/
def leftS (left : Lit → Bool) (rs : List RF) : Nat := ((rs.filter fun r => left (.string r.fl.name)).map fun r => r.fl.bs.length).sum
theorem leftS_none {left : Lit → Bool} {rs : List RF} (h : ∀ k, left k = false) : leftS left rs = 0 := by
  have : rs.filter (fun r => left (.string r.fl.name)) = [] := List.filter_eq_nil_iff.2 fun r _ => by simp [h]
  simp [leftS, this]
theorem leftS_all {left : Lit → Bool} {rs : List RF} (h : ∀ r ∈ rs, left (.string r.fl.name) = true) : leftS left rs = usedF (rs.map RF.fl) := by
  have : rs.filter (fun r => left (.string r.fl.name)) = rs := List.filter_eq_self.2 h
  simp [leftS, this, usedF, Function.comp_def]
theorem leftS_step {left : Lit → Bool} : ∀ {rs : List RF}, Rise RF.nm rs → ∀ {r : RF}, r ∈ rs → left (.string r.fl.name) = true →
    leftS left rs = leftS (fun x => left x && !x.sameKey (.string r.fl.name)) rs + r.fl.bs.length
  | [], _, _, h, _ => by simp at h
  | q :: t, hr, r, hm, hl => by
    obtain ⟨h1, h2⟩ := List.pairwise_cons.1 hr
    rcases List.mem_cons.1 hm with rfl | hm'
    · have same : leftS (fun x => left x && !x.sameKey (.string r.fl.name)) t = leftS left t := by
        unfold leftS
        congr 2
        apply List.filter_congr
        intro b hb
        have hne : b.fl.name ≠ r.fl.name := fun e => nm_irr r.fl.name (by have := h1 b hb; unfold RF.nm at this; rw [e] at this; exact this)
        simp [Lit.sameKey, hne]
      unfold leftS at same ⊢
      simp [hl, Lit.sameKey] at same ⊢
      omega
    · have ih := leftS_step h2 hm' hl
      have hne : q.fl.name ≠ r.fl.name := fun e => nm_irr r.fl.name (by have := h1 r hm'; unfold RF.nm at this; rw [e] at this; exact this)
      unfold leftS at ih ⊢
      by_cases hq : left (.string q.fl.name) = true
      · simp [hq, Lit.sameKey, hne] at ih ⊢
        omega
      · simp [hq] at ih ⊢
        omega
end Go.Proofs.YtohnhboeipckjaaGreatDoor
