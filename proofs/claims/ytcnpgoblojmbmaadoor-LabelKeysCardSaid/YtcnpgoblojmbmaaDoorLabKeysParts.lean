/-
  The parts of the statement on keys: what Cut and the document's Cut answer at one text, said of one row of names; the document's Key of no name.
  Conditions: texts of moderate length; the library's variable that Cut's search reads holds some number.
-/
import Derived.Test.YtcnpgoblojmbmaaDoorLabRefCut
import Derived.Test.YtcnpgoblojmbmaaDoorLabAwake
namespace Go.Proofs.YtcnpgoblojmbmaaDoor
open Go.RowKit

theorem texts_inj : ∀ {xs ys : List ByteArray}, texts xs = texts ys → xs = ys := by
  intro xs
  induction xs with
  | nil => intro ys h; cases ys with
    | nil => rfl
    | cons y ys => cases h
  | cons x xs ih => intro ys h; cases ys with
    | nil => cases h
    | cons y ys =>
      simp only [texts, List.map_cons, List.cons.injEq] at h
      have e : x = y := by rw [bytes_ext (l := y.data.toList) h.1]
      rw [e, ih h.2]

def CutHas (xs : List ByteArray) (n : Nat) (w : World) (e : Ending) (w' : World) : Prop :=
  ∃ g cap, e = .returned (.tuple #[.slice (some ⟨g, 0, none⟩) n cap, .bool true]) ∧ LiesAt w' g 0 xs ∧ Below w.heap.size w w'
theorem cut_has (s : ByteArray) (m : Int) (w : World) (hs : s.size ≤ 1000000) (hm : w.cell? ⟨0, 0, none⟩ = some (.int .i64 m)) (xs : List ByteArray) (n : Nat) (hx : texts xs = pieces [] s.data.toList) (hn : xs.length = n) (hr : rowB (pieces [] s.data.toList) = true) :
    Calls Tryd.prog 16 #[.string s] w (CutHas xs n w) := by
  obtain ⟨h1, h2⟩ := pcs_pieces s
  have e : pcs s = xs := texts_inj ((h2 hr).trans hx.symm)
  refine (cut_yes s m w hs hm (h1.trans hr)).mono ?_
  rintro e' w' ⟨rfl, hL, hb⟩
  rw [e] at hL
  rw [e, hn]
  exact ⟨_, _, rfl, hL, hb⟩
theorem cut_hasnt (s : ByteArray) (m : Int) (w : World) (hs : s.size ≤ 1000000) (hm : w.cell? ⟨0, 0, none⟩ = some (.int .i64 m)) (hr : rowB (pieces [] s.data.toList) = false) :
    Calls Tryd.prog 16 #[.string s] w (CutNo w) := cut_no s m w hs hm ((pcs_pieces s).1.trans hr)
theorem rcut_has (s : ByteArray) (w : World) (hs : s.size ≤ 900) (xs : List ByteArray) (n : Nat) (hx : texts xs = pieces [] s.data.toList) (hn : xs.length = n) (hr : rowB (pieces [] s.data.toList) = true) :
    Calls Tryd.prog 17 #[.string s] w (CutHas xs n w) := by
  refine (rcut_any s w hs).mono ?_
  rintro e w' (⟨h, _⟩ | ⟨_, g, cap, n', ys, rfl, hn', hy, hL, hb⟩)
  · rw [hr] at h; cases h
  · have e : ys = xs := texts_inj (hy.trans hx.symm)
    subst e
    rw [← hn, hn']
    exact ⟨g, cap, rfl, hL, hb⟩
theorem rcut_hasnt (s : ByteArray) (w : World) (hs : s.size ≤ 900) (hr : rowB (pieces [] s.data.toList) = false) :
    Calls Tryd.prog 17 #[.string s] w (CutNo w) := by
  refine (rcut_any s w hs).mono ?_
  rintro e w' (⟨_, h⟩ | ⟨h, _⟩)
  · exact h
  · rw [hr] at h; cases h
/-- the names of a key are those that it was made of -/
theorem cut_back (xs : List ByteArray) (n : Nat) (m : Int) (w : World) (hm : w.cell? ⟨0, 0, none⟩ = some (.int .i64 m)) (hn : xs.length = n) (hr : rowB (texts xs) = true) (hx : ∀ x ∈ xs, x.size ≤ 100) (hnb : n ≤ 12) :
    Calls Tryd.prog 16 #[.string ⟨(keyT (texts xs)).toArray⟩] w (CutHas xs n w) := by
  have hk : (ByteArray.mk (keyT (texts xs)).toArray).data.toList = Lib.join (texts xs) [47] := keyT_yes hr
  have hl := join_len (texts xs) 100 (fun y hy => by
    obtain ⟨x, h1, rfl⟩ := List.mem_map.1 hy
    have e : x.data.toList.length = x.size := Array.length_toList
    have := hx x h1
    omega)
  rw [List.length_map, hn] at hl
  refine cut_has _ m w ?_ hm xs n ?_ hn ?_
  · show (keyT (texts xs)).toArray.size ≤ _
    rw [List.size_toArray, keyT_yes hr]
    omega
  · rw [hk, cut_key hr]
  · rw [hk, cut_key hr]; exact hr
theorem rkey_nil (a : Option Addr) (c : Nat) (w : World) :
    Calls Tryd.prog 15 #[.slice a 0 c] w fun e w' => e = .returned (.tuple #[.string ⟨#[]⟩, .bool false]) ∧ w = w' := by
  go_enter Tryd.func15, Tryd.ntmps15
  go_wp2_with (fail)
  go_loop [4, 5] (fun ov p => p = .int .i64 0 ∧ ov = .string ⟨#[]⟩) (fun _ _ => 0)
  case atStart => exact ⟨rfl, rfl⟩
  case round =>
    obtain ⟨rfl, rfl⟩ := hrel
    go_wp2_with (fail)
    go_ret2
    exact ⟨rfl, rfl⟩
theorem LiesAt.drewN {w : World} {bk o : Nat} {xs : List ByteArray} (h : LiesAt w bk o xs) (n : Nat) : LiesAt (w.drewN n) bk o xs := h
theorem LiesAt.drew {w : World} {bk o : Nat} {xs : List ByteArray} (h : LiesAt w bk o xs) : LiesAt w.drew bk o xs := h
theorem max_at {w w' : World} {m : Int} (hm : w.cell? ⟨0, 0, none⟩ = some (.int .i64 m)) (hb : Below w.heap.size w w') : w'.cell? ⟨0, 0, none⟩ = some (.int .i64 m) := by
  have h0 : 0 < w.heap.size := by
    rcases Nat.lt_or_ge 0 w.heap.size with h | h
    · exact h
    · unfold World.cell? at hm
      rw [Array.getElem?_eq_none h] at hm
      cases hm
  rw [hb.cell (p := ⟨0, 0, none⟩) h0]
  exact hm
theorem lies_cell {w : World} {bk o k : Nat} {xs : List ByteArray} {x : ByteArray} (h : LiesAt w bk o xs) (hx : xs[k]? = some x) : w.cell? ⟨bk, o + k, none⟩ = some (.string x) := h.2 k x hx
theorem lies_cell0 {w : World} {bk k : Nat} {xs : List ByteArray} {x : ByteArray} (h : LiesAt w bk 0 xs) (hx : xs[k]? = some x) : w.cell? ⟨bk, k, none⟩ = some (.string x) := by
  have := h.2 k x hx
  rwa [Nat.zero_add] at this
end Go.Proofs.YtcnpgoblojmbmaaDoor
