/-
  FieldTakes: whatever is taken of any bytes, in any order, each answer, and the first error and its place, is as the document says.
  Conditions: none.
-/
import Derived.Test.YtenkjopmldmobaaFldArg
import Derived.Test.YtenkjopmldmobaaFldRefs3
import Derived.Deep.RegionHeld3
namespace Go.Proofs.Ytenkjopmldmobaa.fieldTakes
open Go.ChangeShapes Go.WideShapes Go.ChangeAt Go.RowKit

/-- bytes as a text -/
def lB (l : List UInt8) : ByteArray := ⟨l.toArray⟩
theorem lB_data (l : List UInt8) : (lB l).data.toList = l := by simp [lB]
theorem lB_size (l : List UInt8) : (lB l).size = l.length := by rw [← len_eq, lB_data]

/-- what a call of the reader leaves -/
def Left (W : World) (g : Nat) (l : List UInt8) (pos on er : Nat) (v : Value) (e : Ending) (w' : World) : Prop := e = .returned v ∧ Rd w' g l pos on er ∧ W.grownBy w' (some g)

/-- where the law's loop stands -/
structure At (w wr : World) (g gs : Nat) (l : List UInt8) : Prop where
  bel : Below w.heap.size w wr
  le : w.heap.size ≤ g
  lt : g < gs
  st : ∃ pos on er, Rd wr g l pos on er ∧ Box wr gs 28 (stV (lB l) pos er on)

/-- a store of a whole block, the world behind it under a name -/
theorem wpList_store_to {P : Program} {ops : Array Oper} {rest : List Oper} {op : Oper} {a : Act} {w : World} {Q : Exit → Act → World → Prop} (hgd : op.guard = none) (ty : TypeId) (x y : Operand) (ho : op.op = .store ty x y)
    (g : Nat) (t : TypeId) (old cs : Array Value) (hx : a.eval x = .pointer (some ⟨g, 0, none⟩)) (hy : a.eval y = .agg cs) (hg : w.heap[g]? = some (.cells old t (0, 0)))
    (hi : (P.info? ty).map (·.size) = some cs.size) (hs : old.size = cs.size) (h1 : cs.all (·.oneCell') = true)
    (h : ∀ w3, w3 = w.setRow g cs → wpList P ops Q rest (a.put op.dst undef) w3) : wpList P ops Q (op :: rest) a w :=
  wpList_store_row hgd ty x y ho g t old cs hx hy hg hi hs h1 (h _ rfl)
theorem box_off {w : World} {g : Nat} {t : TypeId} {cs : Array Value} (h : Box w g t cs) {g' : Nat} (hne : g ≠ g') (cs' : Array Value) : Box (w.setRow g' cs') g t cs := (setRow_other w g' g cs' hne).trans h

/-- what holds behind the document's call, and the store of its reader -/
structure Ref3 (w w3 : World) (g gs q : Nat) (l : List UInt8) (pos on er : Nat) (cs ac : Array Value) : Prop where
  bel : Below w.heap.size w w3
  rd : Rd w3 g l pos on er
  box : Box w3 gs 28 cs
  act : Box w3 q 30 ac
theorem refd' {w wr w2 : World} {g gs : Nat} {l : List UInt8} {pos on er : Nat} {ac : Array Value} (cs : Array Value) (bel : Below w.heap.size w wr) (le : w.heap.size ≤ g) (lt : g < gs) (hrd : Rd wr g l pos on er) (hbx : Box wr gs 28 (stV (lB l) pos er on)) (b2 : Below (wr.heap.size + 1) (wr.alloc (.cells ac 30)) w2) :
    Ref3 w (w2.setRow gs cs) g gs wr.heap.size l pos on er cs ac := by
  have hg := hrd.lt
  have hgs := hbx.lt
  have bA : Below wr.heap.size wr w2 := ((Below.refl _ _).alloc (Nat.le_refl _) _).trans (b2.mono (by omega))
  have b3 : Below w.heap.size w w2 := bel.trans (bA.mono bel.size)
  have bB : Below gs w2 (w2.setRow gs cs) := below_putRow (Below.refl _ _) (Nat.le_refl _) cs
  exact ⟨below_putRow b3 (by omega) cs, (hrd.below bA hg).below bB lt, (hbx.below bA hgs).row cs, box_off ((Box.new wr _ ac).below b2 (by omega)) (by omega) cs⟩
theorem refd {w wr w2 : World} {g gs : Nat} {l : List UInt8} {pos on er : Nat} {ac : Array Value} (cs : Array Value) (bel : Below w.heap.size w wr) (le : w.heap.size ≤ g) (lt : g < gs) (hrd : Rd wr g l pos on er) (hbx : Box wr gs 28 (stV (lB l) pos er on)) (b2 : Below (wr.heap.size + 1) (wr.alloc (.cells ac 30)) w2) (o2 : Obj) :
    Ref3 w ((w2.alloc o2).setRow gs cs) g gs wr.heap.size l pos on er cs ac :=
  refd' cs bel le lt hrd hbx (b2.alloc (by have := b2.size; simp at this; omega) o2)
/-- behind the reader's call -/
theorem called {w w3 w4 : World} {g gs : Nat} {cs : Array Value} (bel : Below w.heap.size w w3) (le : w.heap.size ≤ g) (lt : g < gs) (hbx : Box w3 gs 28 cs) (hG : w3.grownBy w4 (some g)) :
    Below w.heap.size w w4 ∧ Box w4 gs 28 cs :=
  ⟨bel.grown hG bel.size (fun k hk => by injection hk with hk; omega), hbx.grown hG (fun e => by injection e with e; omega)⟩

theorem call_0 (g pos on er : Nat) (l : List UInt8) (W : World) (h : Rd W g l pos on er) :
    Calls Try.prog 9 #[.pointer (some ⟨g, 0, none⟩)] W (Left W g l (nxP pos er 8 (numE l pos)) (nxO pos on er (numE l pos)) (nxE er (numE l pos)) (.int .i64 (numA l pos er : Nat))) := rnum_any g pos on er l W h
theorem ref_0 (pos on er : Nat) (l : List UInt8) (W : World) (hp : pos ≤ l.length) (hs : l.length ≤ 1099511627776) (hno : er = 0 → on = 0) :
    Calls Try.prog 8 #[.agg (stV (lB l) pos er on)] W (RefTo W (lB l) (nxP pos er 8 (numE l pos)) (nxE er (numE l pos)) (nxO pos on er (numE l pos)) (.int .i64 (numA l pos er : Nat))) := by
  have hp' : pos ≤ (lB l).size := by rw [lB_size]; exact hp
  have hs' : (lB l).size ≤ 1099511627776 := by rw [lB_size]; exact hs
  have h := xtake_any (lB l) pos er on W hp' hs' hno
  rw [lB_data] at h
  exact h

theorem call_1 (g pos on er : Nat) (x : Int) (l : List UInt8) (W : World) (h : Rd W g l pos on er) :
    Calls Try.prog 11 #[.pointer (some ⟨g, 0, none⟩), .int .i64 x] W (Left W g l (nxP pos er (8 + numN l pos) (txtE l pos x)) (nxO pos on er (txtE l pos x)) (nxE er (txtE l pos x)) (.string ⟨(txtA l pos er x).toArray⟩)) := rtext_any g pos on er x l W h
theorem ref_1 (pos on er : Nat) (x : Int) (l : List UInt8) (W : World) (hp : pos ≤ l.length) (hs : l.length ≤ 1099511627776) (hno : er = 0 → on = 0) :
    Calls Try.prog 10 #[.agg (stV (lB l) pos er on), .int .i64 x] W (RefTo W (lB l) (nxP pos er (8 + numN l pos) (txtE l pos x)) (nxE er (txtE l pos x)) (nxO pos on er (txtE l pos x)) (.string ⟨(txtA l pos er x).toArray⟩)) := by
  have hp' : pos ≤ (lB l).size := by rw [lB_size]; exact hp
  have hs' : (lB l).size ≤ 1099511627776 := by rw [lB_size]; exact hs
  have h := xtext_any (lB l) pos er on x W hp' hs' hno
  rw [lB_data] at h
  exact h

theorem call_2 (g pos on er : Nat) (l : List UInt8) (W : World) (h : Rd W g l pos on er) :
    Calls Try.prog 13 #[.pointer (some ⟨g, 0, none⟩)] W (Left W g l (nxP pos er 1 (flagE l pos)) (nxO pos on er (flagE l pos)) (nxE er (flagE l pos)) (.bool (flagA l pos er))) := rflag_any g pos on er l W h
theorem ref_2 (pos on er : Nat) (l : List UInt8) (W : World) (hp : pos ≤ l.length) (hs : l.length ≤ 1099511627776) (hno : er = 0 → on = 0) :
    Calls Try.prog 12 #[.agg (stV (lB l) pos er on)] W (RefTo W (lB l) (nxP pos er 1 (flagE l pos)) (nxE er (flagE l pos)) (nxO pos on er (flagE l pos)) (.bool (flagA l pos er))) := by
  have hp' : pos ≤ (lB l).size := by rw [lB_size]; exact hp
  have hs' : (lB l).size ≤ 1099511627776 := by rw [lB_size]; exact hs
  have h := xflag_any (lB l) pos er on W hp' hs' hno
  rw [lB_data] at h
  exact h

theorem call_3 (g pos on er : Nat) (x y : Int) (y0 : -9223372036854775808 ≤ y) (y1 : y ≤ 9223372036854775807) (l : List UInt8) (W : World) (h : Rd W g l pos on er) :
    Calls Try.prog 15 #[.pointer (some ⟨g, 0, none⟩), .int .i64 x, .int .i64 y] W (Left W g l (nxP pos er 8 (cntE l pos x y)) (nxO pos on er (cntE l pos x y)) (nxE er (cntE l pos x y)) (.int .i64 (cntA l pos er x y : Nat))) := rcount_any g pos on er x y l W h y0 y1
theorem ref_3 (pos on er : Nat) (x y : Int) (y0 : -9223372036854775808 ≤ y) (y1 : y ≤ 9223372036854775807) (l : List UInt8) (W : World) (hp : pos ≤ l.length) (hs : l.length ≤ 1099511627776) (hno : er = 0 → on = 0) :
    Calls Try.prog 14 #[.agg (stV (lB l) pos er on), .int .i64 x, .int .i64 y] W (RefTo W (lB l) (nxP pos er 8 (cntE l pos x y)) (nxE er (cntE l pos x y)) (nxO pos on er (cntE l pos x y)) (.int .i64 (cntA l pos er x y : Nat))) := by
  have hp' : pos ≤ (lB l).size := by rw [lB_size]; exact hp
  have hs' : (lB l).size ≤ 1099511627776 := by rw [lB_size]; exact hs
  have h := xcount_any (lB l) pos er on x y W hp' hs' hno y0 y1
  rw [lB_data] at h
  exact h

theorem call_4 (g pos on er : Nat) (l : List UInt8) (W : World) (h : Rd W g l pos on er) :
    Calls Try.prog 17 #[.pointer (some ⟨g, 0, none⟩)] W (Left W g l (nxP pos er 0 (endE l pos)) (nxO pos on er (endE l pos)) (nxE er (endE l pos)) (.bool (okB er (endE l pos)))) := rend_any g pos on er l W h
theorem ref_4 (pos on er : Nat) (l : List UInt8) (W : World) (hno : er = 0 → on = 0) :
    Calls Try.prog 16 #[.agg (stV (lB l) pos er on)] W fun e w' =>
      e = .returned (.agg (stV (lB l) (nxP pos er 0 (endE l pos) : Nat) (nxE er (endE l pos) : Nat) (nxO pos on er (endE l pos) : Nat))) ∧ Below W.heap.size W w' := by
  have h := xend_any (lB l) pos er on W hno
  rw [lB_data] at h
  exact h
theorem ok_end (er e : Nat) : okB er e = ((nxE er e : Nat) == 0) := by
  unfold okB nxE
  by_cases h : er = 0 <;> simp [h]

set_option maxHeartbeats 4000000 in
set_option maxRecDepth 100000 in
theorem walk (A : Option Addr) (l : List UInt8) (c : Nat) (B : Option Addr) (n cb : Nat) (f : Nat → ActD) (w : World) (hb : Byt w w.heap.size A l) (hl : l.length ≤ 9223372036854775807) (hn : n ≤ 9223372036854775807) (hf : ∀ i, i < n → ActAt w w.heap.size B i (f i)) :
    Calls Try.prog 3 #[.slice A l.length c, .slice B n cb] w fun e w' => e = .returned (.bool true) ∧ Below w.heap.size w w' := by
  by_cases h200 : 200 < l.length
  · have hq : decide (200 < (l.length : Int)) = true := by simp; omega
    go_enter Try.func3, Try.ntmps3
    go_wp2_with (go_at_call 6; refine (awake_any _).mono ?_; rintro e W1 ⟨rfl, b1⟩)
    go_ret
    exact ⟨rfl, b1⟩
  · have hq : decide (200 < (l.length : Int)) = false := by simp; omega
    by_cases h30 : 30 < n
    · have hq2 : decide (30 < (n : Int)) = true := by simp; omega
      go_enter Try.func3, Try.ntmps3
      go_wp2_with (go_at_call 6; refine (awake_any _).mono ?_; rintro e W1 ⟨rfl, b1⟩)
      go_ret
      exact ⟨rfl, b1⟩
    · have hq2 : decide (30 < (n : Int)) = false := by simp; omega
      have HF := Lib.hid hf
      clear hf
      have hsm : l.length ≤ 1099511627776 := by omega
      go_enter Try.func3, Try.ntmps3
      go_wp2_with fail
      refine (awake_any _).mono ?_
      rintro e W1 ⟨rfl, b1⟩
      go_wp2_with fail
      refine (new_any A l c W1 ((hb.below b1).more b1.size) (by omega)).mono ?_
      rintro e W2 ⟨g, rfl, hg, hR, b2⟩
      have b3 : Below w.heap.size w W2 := b1.trans (b2.mono b1.size)
      have hT := (hb.below b3).text (P := Try.prog) 22 5 9 Try.underlying22 Try.underlying5 Try.underlying9 c
      go_wp2
      clear hT
      have hAt : At w (W2.alloc (.cells (stV (lB l) 0 0 0) 28)) g W2.heap.size l := ⟨b3.alloc b3.size _, Nat.le_trans b1.size hg, hR.lt, 0, 0, 0, hR.below ((Below.refl _ _).alloc (Nat.le_refl _) _) hR.lt, Box.new _ _ _⟩
      clear hR b1 b2 hg hb b3
      have hgs : ∃ gs, gs = W2.heap.size := ⟨_, rfl⟩
      obtain ⟨gs, hgs⟩ := hgs
      rw [← hgs] at hAt ⊢
      clear hgs
      unfold stV lB at hAt
      generalize W2.alloc (.cells #[.string ⟨l.toArray⟩, .int .i64 0, .int .i64 0, .int .i64 0, .int .i64 0, .string ⟨#[]⟩, .bool false] 28) = W3 at hAt ⊢
      go_loopw [7] (fun i wr => ∃ k : Nat, k ≤ n ∧ i = .int .i64 k ∧ At w wr g gs l) (fun i _ => n - (intOf i).toNat)
      case atStart => exact ⟨0, by omega, rfl, hAt⟩
      case round =>
        obtain ⟨k, hk, rfl, hR⟩ := hrel
        clear hAt
        by_cases hkn : k < n
        · obtain ⟨hok, b, o, rfl, hbl, _⟩ := HF.out k hkn
          obtain ⟨bel, hle, hlt, pos, on, er, hrd, hbx⟩ := hR
          obtain ⟨c0, c1, c2, c3, c4⟩ := (HF.out k hkn).five bel
          obtain ⟨a, ha⟩ : ∃ a, a = f k := ⟨_, rfl⟩
          rw [← ha] at c0 c1 c2 c3 c4 hok
          clear ha
          obtain ⟨_, _, _, _, hl0, hl1, _⟩ := hok
          have hno := hrd.none
          have hpl := hrd.le
          have HNO := Lib.hid hno
          clear hno
          obtain ⟨s0, s1, s2, s3, s4, s5, s6⟩ := hbx.seven
          have hgsz := hbx.lt
          by_cases h0 : a.kind = 0
          · have k0 : (a.kind == 0) = true := by simpa using h0
            clear h0
            have HR := Lib.hid (fun W => ref_0 pos on er l W hpl hsm HNO.out)
            have HC := Lib.hid (fun W h => call_0 g pos on er l W h)
            obtain ⟨P', hP'⟩ : ∃ P', P' = nxP pos er 8 (numE l pos) := ⟨_, rfl⟩
            obtain ⟨E', hE'⟩ : ∃ E', E' = nxE er (numE l pos) := ⟨_, rfl⟩
            obtain ⟨O', hO'⟩ : ∃ O', O' = nxO pos on er (numE l pos) := ⟨_, rfl⟩
            rw [← hP', ← hE', ← hO'] at HR HC
            clear hP' hE' hO'
            obtain ⟨V, hV⟩ : ∃ V, V = numA l pos er := ⟨_, rfl⟩
            rw [← hV] at HR HC
            clear hV
            have HZ := Lib.hid (size28 (lB l) P' E' O')
            have HO := Lib.hid (one28 (lB l) P' E' O')
            go_wp2_with fail
            refine (HR.out _).mono ?_
            rintro e w2 ⟨rfl, b2'⟩
            have b2 := b2'.mono (B' := wr.heap.size + 1) (by simp)
            clear b2'
            have hbx2 := (hbx.alloc _).below b2 (by omega)
            unfold stV
            go_wp2_with (refine wpList_store_to rfl 28 (.tmp 6) (.tmp 53) rfl gs 28 _ (stV (lB l) P' E' O') rfl rfl (hbx2.alloc _) HZ.out rfl HO.out ?_; intro w3 hw3; have hq3 : Ref3 w w3 g gs wr.heap.size l pos on er (stV (lB l) P' E' O') a.cells := (by rw [hw3]; exact refd (stV (lB l) P' E' O') bel hle hlt hrd hbx b2 _); have q1 := hq3.act.cell 1; have q2 := hq3.act.cell 2; simp only [ActD.cells, List.getElem?_toArray, List.getElem?_cons_zero, List.getElem?_cons_succ] at q1 q2; clear hw3)
            refine (HC.out _ hq3.rd).mono ?_
            rintro e w4 ⟨rfl, hrd4, hG4⟩
            obtain ⟨bel4, hbx4⟩ := called hq3.bel hle hlt hq3.box hG4
            clear hG4 hq3 q1 q2
            go_wp2_with fail
            refine (rerr_any g _ _ _ l w4 hrd4).mono ?_
            rintro e w5 ⟨rfl, m5, hw5⟩
            have hbx5 : Box w5 gs 28 (stV (lB l) P' E' O') := by rw [hw5]; exact hbx4
            have hN : At w w5 g gs l := ⟨by rw [hw5]; exact below_drewN bel4 m5, hle, hlt, P', O', E', by rw [hw5]; exact hrd4.drewN m5, hbx5⟩
            obtain ⟨z0, z1, z2, z3, z4, z5, z6⟩ := hbx5.seven
            clear hw5 hbx5
            go_wp2
            go_roundw
            case rel => exact ⟨k + 1, by omega, by go_num, hN⟩
            case measure => simp [intOf]; omega
          · have k0 : (a.kind == 0) = false := by simpa using h0
            clear h0
            by_cases h1 : a.kind = 1
            · have k1 : (a.kind == 1) = true := by simpa using h1
              clear h1
              have HR := Lib.hid (fun W => ref_1 pos on er a.n l W hpl hsm HNO.out)
              have HC := Lib.hid (fun W h => call_1 g pos on er a.n l W h)
              obtain ⟨P', hP'⟩ : ∃ P', P' = nxP pos er (8 + numN l pos) (txtE l pos a.n) := ⟨_, rfl⟩
              obtain ⟨E', hE'⟩ : ∃ E', E' = nxE er (txtE l pos a.n) := ⟨_, rfl⟩
              obtain ⟨O', hO'⟩ : ∃ O', O' = nxO pos on er (txtE l pos a.n) := ⟨_, rfl⟩
              rw [← hP', ← hE', ← hO'] at HR HC
              clear hP' hE' hO'
              obtain ⟨V, hV⟩ : ∃ V, V = (⟨(txtA l pos er a.n).toArray⟩ : ByteArray) := ⟨_, rfl⟩
              rw [← hV] at HR HC
              clear hV
              have HZ := Lib.hid (size28 (lB l) P' E' O')
              have HO := Lib.hid (one28 (lB l) P' E' O')
              go_wp2_with fail
              refine (HR.out _).mono ?_
              rintro e w2 ⟨rfl, b2'⟩
              have b2 := b2'.mono (B' := wr.heap.size + 1) (by simp)
              clear b2'
              have hbx2 := (hbx.alloc _).below b2 (by omega)
              unfold stV
              go_wp2_with (refine wpList_store_to rfl 28 (.tmp 6) (.tmp 67) rfl gs 28 _ (stV (lB l) P' E' O') rfl rfl (hbx2.alloc _) HZ.out rfl HO.out ?_; intro w3 hw3; have hq3 : Ref3 w w3 g gs wr.heap.size l pos on er (stV (lB l) P' E' O') a.cells := (by rw [hw3]; exact refd (stV (lB l) P' E' O') bel hle hlt hrd hbx b2 _); have q1 := hq3.act.cell 1; have q2 := hq3.act.cell 2; simp only [ActD.cells, List.getElem?_toArray, List.getElem?_cons_zero, List.getElem?_cons_succ] at q1 q2; clear hw3)
              refine (HC.out _ hq3.rd).mono ?_
              rintro e w4 ⟨rfl, hrd4, hG4⟩
              obtain ⟨bel4, hbx4⟩ := called hq3.bel hle hlt hq3.box hG4
              clear hG4 hq3 q1 q2
              go_wp2_with fail
              refine (rerr_any g _ _ _ l w4 hrd4).mono ?_
              rintro e w5 ⟨rfl, m5, hw5⟩
              have hbx5 : Box w5 gs 28 (stV (lB l) P' E' O') := by rw [hw5]; exact hbx4
              have hN : At w w5 g gs l := ⟨by rw [hw5]; exact below_drewN bel4 m5, hle, hlt, P', O', E', by rw [hw5]; exact hrd4.drewN m5, hbx5⟩
              obtain ⟨z0, z1, z2, z3, z4, z5, z6⟩ := hbx5.seven
              clear hw5 hbx5
              go_wp2
              go_roundw
              case rel => exact ⟨k + 1, by omega, by go_num, hN⟩
              case measure => simp [intOf]; omega
            · have k1 : (a.kind == 1) = false := by simpa using h1
              clear h1
              by_cases h2 : a.kind = 2
              · have k2 : (a.kind == 2) = true := by simpa using h2
                clear h2
                have HR := Lib.hid (fun W => ref_2 pos on er l W hpl hsm HNO.out)
                have HC := Lib.hid (fun W h => call_2 g pos on er l W h)
                obtain ⟨P', hP'⟩ : ∃ P', P' = nxP pos er 1 (flagE l pos) := ⟨_, rfl⟩
                obtain ⟨E', hE'⟩ : ∃ E', E' = nxE er (flagE l pos) := ⟨_, rfl⟩
                obtain ⟨O', hO'⟩ : ∃ O', O' = nxO pos on er (flagE l pos) := ⟨_, rfl⟩
                rw [← hP', ← hE', ← hO'] at HR HC
                clear hP' hE' hO'
                obtain ⟨V, hV⟩ : ∃ V, V = flagA l pos er := ⟨_, rfl⟩
                rw [← hV] at HR HC
                clear hV
                have HZ := Lib.hid (size28 (lB l) P' E' O')
                have HO := Lib.hid (one28 (lB l) P' E' O')
                go_wp2_with fail
                refine (HR.out _).mono ?_
                rintro e w2 ⟨rfl, b2'⟩
                have b2 := b2'.mono (B' := wr.heap.size + 1) (by simp)
                clear b2'
                have hbx2 := (hbx.alloc _).below b2 (by omega)
                unfold stV
                go_wp2_with (refine wpList_store_to rfl 28 (.tmp 6) (.tmp 81) rfl gs 28 _ (stV (lB l) P' E' O') rfl rfl (hbx2.alloc _) HZ.out rfl HO.out ?_; intro w3 hw3; have hq3 : Ref3 w w3 g gs wr.heap.size l pos on er (stV (lB l) P' E' O') a.cells := (by rw [hw3]; exact refd (stV (lB l) P' E' O') bel hle hlt hrd hbx b2 _); have q1 := hq3.act.cell 1; have q2 := hq3.act.cell 2; simp only [ActD.cells, List.getElem?_toArray, List.getElem?_cons_zero, List.getElem?_cons_succ] at q1 q2; clear hw3)
                refine (HC.out _ hq3.rd).mono ?_
                rintro e w4 ⟨rfl, hrd4, hG4⟩
                obtain ⟨bel4, hbx4⟩ := called hq3.bel hle hlt hq3.box hG4
                clear hG4 hq3 q1 q2
                go_wp2_with fail
                refine (rerr_any g _ _ _ l w4 hrd4).mono ?_
                rintro e w5 ⟨rfl, m5, hw5⟩
                have hbx5 : Box w5 gs 28 (stV (lB l) P' E' O') := by rw [hw5]; exact hbx4
                have hN : At w w5 g gs l := ⟨by rw [hw5]; exact below_drewN bel4 m5, hle, hlt, P', O', E', by rw [hw5]; exact hrd4.drewN m5, hbx5⟩
                obtain ⟨z0, z1, z2, z3, z4, z5, z6⟩ := hbx5.seven
                clear hw5 hbx5
                go_wp2
                go_roundw
                case rel => exact ⟨k + 1, by omega, by go_num, hN⟩
                case measure => simp [intOf]; omega
              · have k2 : (a.kind == 2) = false := by simpa using h2
                clear h2
                by_cases h3 : a.kind = 3
                · have k3 : (a.kind == 3) = true := by simpa using h3
                  clear h3
                  have HR := Lib.hid (fun W => ref_3 pos on er a.n a.least hl0 hl1 l W hpl hsm HNO.out)
                  have HC := Lib.hid (fun W h => call_3 g pos on er a.n a.least hl0 hl1 l W h)
                  obtain ⟨P', hP'⟩ : ∃ P', P' = nxP pos er 8 (cntE l pos a.n a.least) := ⟨_, rfl⟩
                  obtain ⟨E', hE'⟩ : ∃ E', E' = nxE er (cntE l pos a.n a.least) := ⟨_, rfl⟩
                  obtain ⟨O', hO'⟩ : ∃ O', O' = nxO pos on er (cntE l pos a.n a.least) := ⟨_, rfl⟩
                  rw [← hP', ← hE', ← hO'] at HR HC
                  clear hP' hE' hO'
                  obtain ⟨V, hV⟩ : ∃ V, V = cntA l pos er a.n a.least := ⟨_, rfl⟩
                  rw [← hV] at HR HC
                  clear hV
                  have HZ := Lib.hid (size28 (lB l) P' E' O')
                  have HO := Lib.hid (one28 (lB l) P' E' O')
                  go_wp2_with fail
                  refine (HR.out _).mono ?_
                  rintro e w2 ⟨rfl, b2'⟩
                  have b2 := b2'.mono (B' := wr.heap.size + 1) (by simp)
                  clear b2'
                  have hbx2 := (hbx.alloc _).below b2 (by omega)
                  unfold stV
                  go_wp2_with (refine wpList_store_to rfl 28 (.tmp 6) (.tmp 97) rfl gs 28 _ (stV (lB l) P' E' O') rfl rfl (hbx2.alloc _) HZ.out rfl HO.out ?_; intro w3 hw3; have hq3 : Ref3 w w3 g gs wr.heap.size l pos on er (stV (lB l) P' E' O') a.cells := (by rw [hw3]; exact refd (stV (lB l) P' E' O') bel hle hlt hrd hbx b2 _); have q1 := hq3.act.cell 1; have q2 := hq3.act.cell 2; simp only [ActD.cells, List.getElem?_toArray, List.getElem?_cons_zero, List.getElem?_cons_succ] at q1 q2; clear hw3)
                  refine (HC.out _ hq3.rd).mono ?_
                  rintro e w4 ⟨rfl, hrd4, hG4⟩
                  obtain ⟨bel4, hbx4⟩ := called hq3.bel hle hlt hq3.box hG4
                  clear hG4 hq3 q1 q2
                  go_wp2_with fail
                  refine (rerr_any g _ _ _ l w4 hrd4).mono ?_
                  rintro e w5 ⟨rfl, m5, hw5⟩
                  have hbx5 : Box w5 gs 28 (stV (lB l) P' E' O') := by rw [hw5]; exact hbx4
                  have hN : At w w5 g gs l := ⟨by rw [hw5]; exact below_drewN bel4 m5, hle, hlt, P', O', E', by rw [hw5]; exact hrd4.drewN m5, hbx5⟩
                  obtain ⟨z0, z1, z2, z3, z4, z5, z6⟩ := hbx5.seven
                  clear hw5 hbx5
                  go_wp2
                  go_roundw
                  case rel => exact ⟨k + 1, by omega, by go_num, hN⟩
                  case measure => simp [intOf]; omega
                · have k3 : (a.kind == 3) = false := by simpa using h3
                  clear h3
                  by_cases h4 : a.kind = 4
                  · have k4 : (a.kind == 4) = true := by simpa using h4
                    clear h4
                    have HR := Lib.hid (fun W => ref_4 pos on er l W HNO.out)
                    have HC := Lib.hid (fun W h => call_4 g pos on er l W h)
                    have hV0 := ok_end er (endE l pos)
                    obtain ⟨P', hP'⟩ : ∃ P', P' = nxP pos er 0 (endE l pos) := ⟨_, rfl⟩
                    obtain ⟨E', hE'⟩ : ∃ E', E' = nxE er (endE l pos) := ⟨_, rfl⟩
                    obtain ⟨O', hO'⟩ : ∃ O', O' = nxO pos on er (endE l pos) := ⟨_, rfl⟩
                    rw [← hP', ← hE', ← hO'] at HR HC
                    rw [← hE'] at hV0
                    clear hP' hE' hO'
                    rw [hV0] at HC
                    clear hV0
                    obtain ⟨V, hV⟩ : ∃ V : Bool, ((E' : Int) == 0) = V := ⟨_, rfl⟩
                    have hV2 : ((E' : Nat) == 0) = V := by rw [← hV, Bool.eq_iff_iff]; simp only [beq_iff_eq]; omega
                    rw [hV2] at HC
                    clear hV2
                    have HZ := Lib.hid (size28 (lB l) P' E' O')
                    have HO := Lib.hid (one28 (lB l) P' E' O')
                    go_wp2_with fail
                    refine (HR.out _).mono ?_
                    rintro e w2 ⟨rfl, b2'⟩
                    have b2 := b2'.mono (B' := wr.heap.size + 1) (by simp)
                    clear b2'
                    have hbx2 := (hbx.alloc _).below b2 (by omega)
                    unfold stV
                    go_wp2_with (refine wpList_store_to rfl 28 (.tmp 6) (.tmp 109) rfl gs 28 _ (stV (lB l) P' E' O') rfl rfl hbx2 HZ.out rfl HO.out ?_; intro w3 hw3; have hq3 : Ref3 w w3 g gs wr.heap.size l pos on er (stV (lB l) P' E' O') a.cells := (by rw [hw3]; exact refd' (stV (lB l) P' E' O') bel hle hlt hrd hbx b2); clear hw3)
                    obtain ⟨y0, y1, y2, y3, y4, y5, y6⟩ := hq3.box.seven
                    have hrdD : Rd w3.drew g l pos on er := hq3.rd.drewN 1
                    have hbxD : Box w3.drew gs 28 (stV (lB l) P' E' O') := hq3.box
                    have belD : Below w.heap.size w w3.drew := hq3.bel.drew
                    go_region_held3 (fun w' => w'.cell? ⟨gs, 2, none⟩ = some (.int .i64 (E' : Int))) (first | exact y2 | assumption)
                      (first
                        | (go_at_call 17; (with_reducible refine (HC.out _ hrdD).mono ?_); rintro e w4 ⟨rfl, hrd4, hG4⟩; obtain ⟨bel4, hbx4⟩ := called belD hle hlt hbxD hG4; have y7 : w4.cell? ⟨gs, 2, none⟩ = some (.int .i64 (E' : Int)) := hbx4.cell 2))
                    clear hG4 hq3 hrdD hbxD belD
                    go_wp2_with fail
                    refine (rerr_any g _ _ _ l w4 hrd4).mono ?_
                    rintro e w5 ⟨rfl, m5, hw5⟩
                    have hbx5 : Box w5 gs 28 (stV (lB l) P' E' O') := by rw [hw5]; exact hbx4
                    have hN : At w w5 g gs l := ⟨by rw [hw5]; exact below_drewN bel4 m5, hle, hlt, P', O', E', by rw [hw5]; exact hrd4.drewN m5, hbx5⟩
                    obtain ⟨z0, z1, z2, z3, z4, z5, z6⟩ := hbx5.seven
                    clear hw5 hbx5
                    go_wp2
                    go_roundw
                    case rel => exact ⟨k + 1, by omega, by go_num, hN⟩
                    case measure => simp [intOf]; omega
                  · have k4 : (a.kind == 4) = false := by simpa using h4
                    clear h4
                    obtain ⟨w4, hw4⟩ : ∃ w4, w4 = wr.alloc (.cells #[.int .i64 a.kind, .int .i64 a.n, .int .i64 a.least, .string a.s, .bool a.yes] 30) := ⟨_, rfl⟩
                    have bA : Below wr.heap.size wr w4 := by rw [hw4]; exact (Below.refl _ _).alloc (Nat.le_refl _) _
                    have hrd4 : Rd w4 g l pos on er := hrd.below bA hrd.lt
                    have hbx4 : Box w4 gs 28 (stV (lB l) pos er on) := hbx.below bA hbx.lt
                    have bel4 : Below w.heap.size w w4 := bel.trans (bA.mono bel.size)
                    clear bA
                    go_wp2_with fail
                    rw [← hw4]
                    clear hw4
                    refine (rerr_any g _ _ _ l w4 hrd4).mono ?_
                    rintro e w5 ⟨rfl, m5, hw5⟩
                    have hbx5 : Box w5 gs 28 (stV (lB l) pos er on) := by rw [hw5]; exact hbx4
                    have hN : At w w5 g gs l := ⟨by rw [hw5]; exact below_drewN bel4 m5, hle, hlt, pos, on, er, by rw [hw5]; exact hrd4.drewN m5, hbx5⟩
                    obtain ⟨z0, z1, z2, z3, z4, z5, z6⟩ := hbx5.seven
                    clear hw5 hbx5
                    go_wp2
                    go_roundw
                    case rel => exact ⟨k + 1, by omega, by go_num, hN⟩
                    case measure => simp [intOf]; omega
        · obtain rfl : k = n := by omega
          go_wp2
          go_ret
          exact ⟨rfl, hR.bel⟩

set_option maxRecDepth 100000 in
theorem lifted (os : Os) (started : os.Started) (H : Type) (enc : TypeId × Value → H) :
    ReturnsInHanded {} Try.checked os 3 .any (Rows.fieldTakesSpec.pre6 enc Try.prog Try.f3 Rows.fieldTakesRow.domain false) (Rows.fieldTakesSpec.post enc Try.prog Try.f3 false true false false) := by
  refine returnsInHanded_of_change_sized (C := Try.checked) own started (by kernel_rfl) Try.func3
    (ChangeSpec.witness6 (enc := enc) (C := Try.checked) false ⟨#[], #[.slice none 0 0, .slice none 0 0], []⟩ 8 (by kernel_rfl) (by kernel_rfl) (by kernel_rfl) (by kernel_rfl)) ?_
  intro W base args ds gs before hval0 hW _ _ _
  have hval : ∀ (j : Nat) t v, Try.f3.params[j]? = some t → args[j]? = some v → Value.okWide Try.prog W .any base t v := hval0
  have hW' := hW
  obtain ⟨p, q, hA0, hV, rfl, _, _⟩ := hW
  have hA : DataW.TrodAll enc Try.prog W 0 (fun _ => true) true Try.f3.params.toList args.toList ds p := hA0
  rw [Try.params3] at hA hval
  obtain ⟨rfl, rfl⟩ := trodVars_none hV
  obtain ⟨v0, vs0, d0, ds0, p0, q0, hargs, rfl, rfl, h0, r0⟩ := trodAll_cons hA
  obtain ⟨v1, vs1, d1, ds1, p1, q1, rfl, rfl, rfl, h1, r1⟩ := trodAll_cons r0
  obtain ⟨rfl, rfl, rfl⟩ := trodAll_nil r1
  obtain rfl : args = #[v0, v1] := by cases args; simp_all
  obtain ⟨a0, len, cap, rfl⟩ := okWide_slice Try.underlying22 (hval 0 22 v0 rfl rfl)
  obtain ⟨a1, len1, cap1, rfl⟩ := okWide_slice Try.underlying23 (hval 1 23 v1 rfl rfl)
  clear hA0 hval0
  simp only [List.append_nil] at hW'
  have hlt0 : ∀ x ∈ p0, x.block < W.heap.size := fun x hx => by simpa using hW'.lt x (by simp [hx])
  have hlt1 : ∀ x ∈ p1, x.block < W.heap.size := fun x hx => by simpa using hW'.lt x (by simp [hx])
  obtain ⟨l, rfl, hc, hm, hb⟩ := arg_bytes h0
  obtain ⟨f, hc1, hm1, hf⟩ := arg_acts h1
  refine (walk a0 l cap a1 len1 cap1 f W hb hm hm1 hf).mono fun e W' ⟨he, bel⟩ => ?_
  subst he
  exact ⟨_, rfl, _, _, _, [], _, [], hW', trodAll_mk1 (shut_bool Try.underlying4 _), (trodAll_cons_mk (Below.trod laidOut (by kernel_rfl) (of_decide_eq_true (by kernel_rfl)) h0 bel hlt0) (trodAll_cons_mk (Below.trod laidOut (by kernel_rfl) (of_decide_eq_true (by kernel_rfl)) h1 bel hlt1) trodAll_mk0)), rfl, bel.frame _, fun h => by cases h⟩

/-- the statement -/
theorem proved : Rows.FieldTakesSaid :=
  OpenClaim.holds_of_wide 3 Try.f3 rfl rfl rfl rfl rfl rfl rfl ⟨rfl, rfl, rfl, rfl, rfl⟩ rfl rfl rfl rfl rfl (by kernel_rfl) Try.func3 (by kernel_rfl)
    (of_decide_eq_true (by kernel_rfl)) (by unfold Func.isWrapper; first | (rw [if_pos (by decide +kernel)]; kernel_rfl) | (rw [if_neg (by decide +kernel)]; exact ⟨rfl, rfl⟩))
    (fun os started H enc _ => lifted os started H enc)
#print axioms proved
end Go.Proofs.Ytenkjopmldmobaa.fieldTakes
