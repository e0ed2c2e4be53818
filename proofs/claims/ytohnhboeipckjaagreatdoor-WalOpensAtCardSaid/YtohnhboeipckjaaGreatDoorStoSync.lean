/-
  What the store's Sync, Truncate, Remove and Read answer, and what the store is then.
  Conditions: the store is one; names are at most 2^30 bytes.
-/
import Derived.Test.YtohnhboeipckjaaGreatDoorStoDo
namespace Go.Proofs.YtohnhboeipckjaaGreatDoor
open Go.RowKit Go.Maps

/-- m[k] = v, as it runs -/
theorem Raw.mput {w : World} {g bm : Nat} {X : Nat → Prop} {rs : List RF} {cap fuse : Nat} {down : Bool} (h : Raw w g X bm rs cap fuse down) {w1 : World} {row : Option Nat} (s : ByteArray) (hs : s.size ≤ maxLen) (r : RF)
    (hn : r.fl.name = s.data.toList) (hw : w.grownBy w1 row) (hrow : ∀ i, row = some i → ∃ r0 ∈ rs, r0.nm = r.nm ∧ r0.v.ownBlock = some i)
    (hown : w1.ownsRow 0 5 1 r.v r.fl.bs.length (cellsB r.fl.bs)) (hblk : ∀ i, r.v.ownBlock = some i → (∃ r0 ∈ rs, r0.nm = r.nm ∧ r0.v.ownBlock = some i) ∨ (¬ X i ∧ ∀ q ∈ rs, q.v.ownBlock ≠ some i))
    (hok : St.Ok ⟨putBy Fl.name r.fl (rs.map RF.fl), cap, fuse, down⟩) {V : Value} (hV : V = fileV r.v r.fl.safe r.fl.stays) :
    ∃ w', (Instr.mapUpdate 57 (.map (some bm)) (.string s) V).run Tryz.prog w1 = .ok () w' ∧ Raw w' g X bm (putBy RF.nm r rs) cap fuse down ∧ Keep X w w' ∧ w1.mapTurned w' bm := by
  subst hV
  obtain ⟨es, hom, hp⟩ := h.map
  have hrm : row ≠ some bm := fun e => by obtain ⟨r0, hr0, _, e0⟩ := hrow bm e; exact h.om hr0 e0
  have hom1 := hom.kept hw (fun e => hrm e.symm)
  have hkey : keyOf Tryz.prog 9 (.string s) = some (.string r.fl.name) := by rw [hn]; exact WideMaps.keyOf_string_mk Tryz.underlying9 hs
  have hl := h.len
  obtain ⟨w', hrun, hm', ht⟩ := hom1.store lawK Tryz.underlying57 (by unfold maxLen; omega) hkey (val := fileV r.v r.fl.safe r.fl.stays) (d := .held (fileV r.v r.fl.safe r.fl.stays)) (ps := []) rfl
  obtain ⟨hR, hkp⟩ := h.put hw hrow hown hblk hp hm' ht hok
  exact ⟨w', hrun, hR, hkp, ht⟩
theorem Raw.drew {w : World} {g bm : Nat} {X : Nat → Prop} {rs : List RF} {cap fuse : Nat} {down : Bool} (h : Raw w g X bm rs cap fuse down) : Raw w.drew g X bm rs cap fuse down := h.stay (Nat.le_refl _) (fun _ _ _ => rfl)
theorem turned_cell {w w' : World} {b : Nat} (h : w.mapTurned w' b) {p : Nat} (hp : p < w.heap.size) (hne : p ≠ b) (i : Nat) : w'.cell? ⟨p, i, none⟩ = w.cell? ⟨p, i, none⟩ :=
  World.cell?_of_block (h.grown.block p hp (fun e => hne (by injection e)))

/-! ### the calls that find nothing -/
section
variable (g bm : Nat) (X : Nat → Prop) (rs : List RF) (cap fuse : Nat) (s : ByteArray) (w : World)
/-- what find tells where it finds nothing -/
def noneE (down : Bool) : Nat := if down then 12 else 7
theorem find_not {down : Bool} (h : Raw w g X bm rs cap fuse down) (hs : s.size ≤ 1073741824) (hl : down = false → lookBy RF.nm s.data.toList rs = none) :
    Calls Tryz.prog 41 #[.pointer (some ⟨g, 0, none⟩), .string s] w fun e w' => e = .returned (.tuple #[.agg #[.slice none 0 0, .int .i64 0, .bool false], .int .i64 (noneE down : Int)]) ∧ Below w.heap.size w w' := by
  cases down with
  | true => exact find_down g bm X rs cap fuse s w h
  | false => exact find_none g bm X rs cap fuse s w h (by omega) (hl rfl)
theorem noneE_ne (down : Bool) : ((noneE down : Int) != 0) = true := by cases down <;> rfl
theorem sync_not {down : Bool} (h : Raw w g X bm rs cap fuse down) (hs : s.size ≤ 1073741824) (hl : down = false → lookBy RF.nm s.data.toList rs = none) :
    Calls Tryz.prog 45 #[.pointer (some ⟨g, 0, none⟩), .string s] w fun e w' => e = .returned (.int .i64 (noneE down : Int)) ∧ Below w.heap.size w w' := by
  have H := Lib.hid (find_not g bm X rs cap fuse s w h hs hl)
  have hz := noneE_ne down
  clear hl
  go_enter Tryz.func45, Tryz.ntmps45
  go_wp2_with (go_at_call 41; (with_reducible refine H.out.mono ?_); rintro e w1 ⟨rfl, hb1⟩)
  go_ret
  exact ⟨rfl, hb1.alloc hb1.size _⟩
theorem trunc_not {down : Bool} (n : Int) (h : Raw w g X bm rs cap fuse down) (hs : s.size ≤ 1073741824) (hl : down = false → lookBy RF.nm s.data.toList rs = none) :
    Calls Tryz.prog 87 #[.pointer (some ⟨g, 0, none⟩), .string s, .int .i64 n] w fun e w' => e = .returned (.int .i64 (noneE down : Int)) ∧ Below w.heap.size w w' := by
  have H := Lib.hid (find_not g bm X rs cap fuse s w h hs hl)
  have hz := noneE_ne down
  clear hl
  go_enter Tryz.func87, Tryz.ntmps87
  go_wp2_with (go_at_call 41; (with_reducible refine H.out.mono ?_); rintro e w1 ⟨rfl, hb1⟩)
  go_ret
  exact ⟨rfl, hb1.alloc hb1.size _⟩
theorem remove_not {down : Bool} (h : Raw w g X bm rs cap fuse down) (hs : s.size ≤ 1073741824) (hl : down = false → lookBy RF.nm s.data.toList rs = none) :
    Calls Tryz.prog 53 #[.pointer (some ⟨g, 0, none⟩), .string s] w fun e w' => e = .returned (.int .i64 (noneE down : Int)) ∧ Below w.heap.size w w' := by
  have H := Lib.hid (find_not g bm X rs cap fuse s w h hs hl)
  have hz := noneE_ne down
  clear hl
  go_enter Tryz.func53, Tryz.ntmps53
  go_wp2_with (go_at_call 41; (with_reducible refine H.out.mono ?_); rintro e w1 ⟨rfl, hb1⟩)
  go_ret
  exact ⟨rfl, hb1.alloc hb1.size _⟩
/-- bytes that are new, beside an error -/
def ReadIs (w : World) (bs : List UInt8) (er : Nat) (e : Ending) (w' : World) : Prop :=
  ∃ v, e = .returned (.tuple #[v, .int .i64 (er : Int)]) ∧ w'.ownsRow w.heap.size 5 1 v bs.length (cellsB bs) ∧ Below w.heap.size w w'
theorem read_not {down : Bool} (h : Raw w g X bm rs cap fuse down) (hs : s.size ≤ 1073741824) (hl : down = false → lookBy RF.nm s.data.toList rs = none) :
    Calls Tryz.prog 21 #[.pointer (some ⟨g, 0, none⟩), .string s] w (ReadIs w [] (noneE down)) := by
  have H := Lib.hid (find_not g bm X rs cap fuse s w h hs hl)
  clear hl
  go_enter Tryz.func21, Tryz.ntmps21
  go_wp2_with (first
    | (go_at_call 41; (with_reducible refine H.out.mono ?_); rintro e w1 ⟨rfl, hb1⟩)
    | (go_at_call 42; refine (clone_any none [] 0 _ (Byt.none _ _ _) (by simp)).mono ?_; rintro e w2 ⟨v, rfl, ho, hb2⟩))
  go_ret2
  exact ⟨v, rfl, own_base ho (Nat.le_trans hb1.size (by simp)), (hb1.alloc hb1.size _).trans (hb2.mono (Nat.le_trans hb1.size (by simp)))⟩
theorem read_some (r : RF) (h : Raw w g X bm rs cap fuse false) (hs : s.size ≤ 1073741824) (hl : lookBy RF.nm s.data.toList rs = some r) :
    Calls Tryz.prog 21 #[.pointer (some ⟨g, 0, none⟩), .string s] w (ReadIs w r.fl.bs 0) := by
  obtain ⟨hr, _⟩ := lookBy_some hl
  obtain ⟨A, c, hv, _⟩ := h.form hr
  have H := Lib.hid (find_some g bm X rs cap fuse s r A _ c w h (by omega) hl hv)
  have ho := (h.own r hr).1
  rw [hv] at ho
  have hby := Byt.own ho
  have hbl : r.fl.bs.length ≤ 16777216 := by
    have h1 := used_take (s := ⟨rs.map RF.fl, cap, fuse, false⟩) (List.mem_map.2 ⟨r, hr, rfl⟩)
    have h2 := h.ok.used
    have h3 := h.ok.cap
    simp only at h1 h2 h3
    omega
  clear hl hv ho
  go_enter Tryz.func21, Tryz.ntmps21
  go_wp2_with (first
    | (go_at_call 41; (with_reducible refine H.out.mono ?_); rintro e w1 ⟨rfl, hb1⟩)
    | (go_at_call 42; refine (clone_any A r.fl.bs c _ ((hby.below (hb1.alloc hb1.size _)).more (Nat.le_trans hb1.size (by simp))) (by omega)).mono ?_; rintro e w2 ⟨v, rfl, ho, hb2⟩))
  go_ret2
  exact ⟨v, rfl, own_base ho (Nat.le_trans hb1.size (by simp)), (hb1.alloc hb1.size _).trans (hb2.mono (Nat.le_trans hb1.size (by simp)))⟩
end
end Go.Proofs.YtohnhboeipckjaaGreatDoor
