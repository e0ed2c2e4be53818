/-
  Lines of commands and replies: the program's and the document's.
  Conditions: names and keys of moderate length; the listed variables hold what they do.
-/
import Derived.Test.YtllpjfbcjcnpcaaDoorWirGood
namespace Go.Proofs.YtllpjfbcjcnpcaaDoor.Wi
open Go.RowKit
open Go.Proofs.YtllpjfbcjcnpcaaDoor.El
open Go.Proofs.YtllpjfbcjcnpcaaDoor.Df
open Go.Lib (decDigits)

def tx (l : List UInt8) : ByteArray := ⟨l.toArray⟩
theorem tx_list (l : List UInt8) : (tx l).data.toList = l := by simp [tx]
theorem tx_size (l : List UInt8) : (tx l).size = l.length := by
  show l.toArray.size = _
  simp
theorem tx_of (s : ByteArray) : tx s.data.toList = s := by
  apply ByteArray.ext
  simp [tx]
theorem dg_size {n : Int} (h : n ≤ 9223372036854775807) : (dg n).length ≤ 20 := dec_size n.toNat (by omega)
theorem digits_any (n : Int) (w : World) (hT : Tab w) (h0 : 0 ≤ n) (h1 : n ≤ 9223372036854775807) :
    Calls Tryd.prog 24 #[.int .i64 n] w fun e w' => e = .returned (.string (tx (dg n))) ∧ Below w.heap.size w w' := by
  have HI := Lib.hid (itoa_any n w hT h0 h1)
  unfold tx dg
  clear hT
  go_enter Tryd.func24, Tryd.ntmps24
  go_wp2_with (go_at_call 40; (with_reducible refine HI.out.mono ?_); rintro e w1 ⟨rfl, hb⟩; have HB := Lib.hid hb; clear hb)
  go_ret
  exact ⟨rfl, HB.out⟩
theorem way_any (u : Bool) (w : World) : Calls Tryd.prog 25 #[.bool u] w fun e w' => e = .returned (.string (tx (way u))) ∧ w = w' := by
  cases u
  all_goals
    go_enter Tryd.func25, Tryd.ntmps25
    go_wp2
    go_ret
    exact ⟨rfl, rfl⟩
theorem how_any (u : Bool) (w : World) : Calls Tryd.prog 26 #[.bool u] w fun e w' => e = .returned (.string (tx (how u))) ∧ w = w' := by
  cases u
  all_goals
    go_enter Tryd.func26, Tryd.ntmps26
    go_wp2
    go_ret
    exact ⟨rfl, rfl⟩
theorem rway_any (u : Bool) (w : World) : Calls Tryd.prog 30 #[.bool u] w fun e w' => e = .returned (.string (tx (32 :: way u ++ [32]))) ∧ w = w' := by
  cases u
  all_goals
    go_enter Tryd.func30, Tryd.ntmps30
    go_wp2
    go_ret
    exact ⟨rfl, rfl⟩
/-- the line of words -/
theorem line_any (xs : List ByteArray) (L : List UInt8) (hL : Lib.join (xs.map (·.data.toList)) [32] = L) (hs : L.length ≤ 100000000) (hx : xs.length ≤ 1000) (u : World) (B : Nat) (w : World) (hb : Below B w u) (hB : B ≤ u.heap.size) :
    Calls Tryd.prog 23 #[.slice (some ⟨u.heap.size, 0, none⟩) xs.length xs.length] (u.alloc (.cells (xs.map Value.string).toArray 9)) fun e w' =>
      e = .returned (.string (tx L)) ∧ Below B w w' := by
  have hbx := Box.new u 9 (xs.map Value.string).toArray
  have h := Tryd.strings_Join u.heap.size 0 xs.length xs ⟨#[32]⟩ (u.alloc (.cells (xs.map Value.string).toArray 9)) (fun j x hj => by
    rw [Nat.zero_add, hbx.cell j, List.getElem?_toArray, List.getElem?_map, hj]
    rfl) (by simp) (by omega) (Nat.le_refl _) (by
      show (Lib.join (xs.map (·.data.toList)) [32]).length ≤ _
      rw [hL]
      omega)
  have e : Lib.join (xs.map (·.data.toList)) (ByteArray.mk #[32]).data.toList = L := hL
  rw [e] at h
  have HJ := Lib.hid h
  have HB := Lib.hid (hb.alloc hB (.cells (xs.map Value.string).toArray 9))
  have hz : B ≤ (u.alloc (.cells (xs.map Value.string).toArray 9)).heap.size := by simp; omega
  clear h hbx hb hL e hx hs
  generalize u.alloc _ = U at *
  generalize u.heap.size = g at *
  generalize xs.length = k at *
  unfold tx
  go_enter Tryd.func23, Tryd.ntmps23
  go_wp2_with (go_at_call 39; (with_reducible refine HJ.out.mono ?_); rintro e w1 ⟨rfl, hb1⟩; have HB1 := Lib.hid hb1; clear hb1)
  go_ret
  exact ⟨rfl, HB.out.trans (HB1.out.mono hz)⟩
noncomputable def lnC (c : Cm) : List UInt8 := if goodB c then lineL c else []
def lnR (r : Rp) : List UInt8 := if goodR r then lineR r else []
theorem join7 (a b c d e f g : List UInt8) : Lib.join [a, b, c, d, e, f, g] [32] = a ++ 32 :: (b ++ 32 :: (c ++ 32 :: (d ++ 32 :: (e ++ 32 :: (f ++ 32 :: g))))) := by
  rw [Lib.join_cons]
  simp [Lib.joinTail]
theorem join6 (a b c d e f : List UInt8) : Lib.join [a, b, c, d, e, f] [32] = a ++ 32 :: (b ++ 32 :: (c ++ 32 :: (d ++ 32 :: (e ++ 32 :: f)))) := by
  rw [Lib.join_cons]
  simp [Lib.joinTail]
theorem way_len (u : Bool) : (way u).length ≤ 4 := by cases u <;> decide
theorem how_len (u : Bool) : (how u).length ≤ 4 := by cases u <;> decide
theorem line_len {c : Cm} (h : Good c) (hp : c.pt.size ≤ 1000000) (hk : c.ky.size ≤ 1000000) : (lineL c).length ≤ 3000000 := by
  have h1 := dg_size (n := c.sg) (by have := h.1.2; omega)
  have h2 := dg_size (n := c.st) (by have := h.2.1.2; omega)
  have h3 := dg_size (n := c.tr) (by have := h.2.2.1.2; omega)
  have h4 := way_len c.un
  have h5 := len_is c.pt
  have h6 := len_is c.ky
  unfold lineL
  simp only [List.length_append, List.length_cons, List.length_nil]
  omega
theorem line_lenR {r : Rp} (h : GoodR r) : (lineR r).length ≤ 3000000 := by
  have h1 := dg_size (n := r.sg) (by have := h.1.2; omega)
  have h2 := dg_size (n := r.st) (by have := h.2.1.2; omega)
  have h3 := dg_size (n := r.tr) (by have := h.2.2.2; omega)
  have h4 := way_len r.un
  have h5 := how_len r.gd
  unfold lineR
  simp only [List.length_append, List.length_cons, List.length_nil]
  omega
set_option maxRecDepth 100000 in
set_option maxHeartbeats 4000000 in
theorem commandLine_any (c : Cm) (w : World) (hG : Gl w) (hp : c.pt.size ≤ 1000000) (hk : c.ky.size ≤ 1000000) :
    Calls Tryd.prog 10 #[.agg #[.int .i64 c.sg, .int .i64 c.st, .bool c.un, .int .i64 c.tr, .string c.pt, .string c.ky]] w fun e w' => e = .returned (.string (tx (lnC c))) ∧ Below w.heap.size w w' := by
  have HB0 := Lib.hid ((Below.refl w.heap.size w).alloc (Nat.le_refl _) (.cells #[.int .i64 c.sg, .int .i64 c.st, .bool c.un, .int .i64 c.tr, .string c.pt, .string c.ky] 23))
  have HC := Lib.hid (goodCommand_any c _ (hG.on HB0.out) hp hk)
  have HX := Lib.hid (Box.new w 23 #[.int .i64 c.sg, .int .i64 c.st, .bool c.un, .int .i64 c.tr, .string c.pt, .string c.ky])
  cases hgb : goodB c
  · rw [hgb] at HC
    have e : lnC c = [] := by unfold lnC; rw [hgb]; rfl
    rw [e]
    clear hgb e hG hp hk
    unfold tx
    go_enter Tryd.func10, Tryd.ntmps10
    go_wp2_with (go_at_call 6; (with_reducible refine HC.out.mono ?_); rintro e w1 ⟨rfl, hb1⟩; have HB1 := Lib.hid hb1; clear hb1)
    go_ret
    exact ⟨rfl, HB0.out.trans (HB1.out.mono (by simp))⟩
  · rw [hgb] at HC
    have hg := good_yes hgb
    have e : lnC c = lineL c := by unfold lnC; rw [hgb]; rfl
    rw [e]
    obtain ⟨d1, hd1⟩ : ∃ x, x = tx (dg c.sg) := ⟨_, rfl⟩
    obtain ⟨d2, hd2⟩ : ∃ x, x = tx (dg c.st) := ⟨_, rfl⟩
    obtain ⟨d3, hd3⟩ : ∃ x, x = tx (dg c.tr) := ⟨_, rfl⟩
    obtain ⟨wy, hwy⟩ : ∃ x, x = tx (way c.un) := ⟨_, rfl⟩
    have hll := line_len hg hp hk
    have HJ0 := Lib.hid (line_any [⟨#[115, 101, 110, 100]⟩, d1, d2, wy, d3, c.pt, c.ky] (lineL c) (by
      simp only [List.map_cons, List.map_nil]
      rw [hd1, hd2, hd3, hwy, tx_list, tx_list, tx_list, tx_list, join7]
      rfl) (by omega) (by simp))
    have HT0 := Lib.hid (fun (u : World) (hu : Below w.heap.size w u) => (hG.on hu).t)
    have HD1 := Lib.hid (fun (u : World) (hu : Below w.heap.size w u) => digits_any c.sg u (HT0.out u hu) hg.1.1 (by have := hg.1.2; omega))
    have HD2 := Lib.hid (fun (u : World) (hu : Below w.heap.size w u) => digits_any c.st u (HT0.out u hu) hg.2.1.1 (by have := hg.2.1.2; omega))
    have HD3 := Lib.hid (fun (u : World) (hu : Below w.heap.size w u) => digits_any c.tr u (HT0.out u hu) hg.2.2.1.1 (by have := hg.2.2.1.2; omega))
    have HW := Lib.hid (way_any c.un)
    rw [← hd1] at HD1
    rw [← hd2] at HD2
    rw [← hd3] at HD3
    rw [← hwy] at HW
    generalize lineL c = L at *
    clear hgb e hG hp hk hg hll hd1 hd2 hd3 hwy HT0
    go_enter Tryd.func10, Tryd.ntmps10
    go_wp2_with (go_at_call 6; (with_reducible refine HC.out.mono ?_); rintro e w1 ⟨rfl, hb1⟩; have HB1 := Lib.hid (HB0.out.trans (hb1.mono (by simp))); have HX1 := Lib.hid (HX.out.below hb1 (by simp)); clear hb1)
    have hlt := HX1.out.lt
    have k0 : ∀ u, Below w1.heap.size w1 u → u.cell? ⟨w.heap.size, 0, none⟩ = some (.int .i64 c.sg) := fun u hu => (HX1.out.below hu hlt).cell 0
    have k1 : ∀ u, Below w1.heap.size w1 u → u.cell? ⟨w.heap.size, 1, none⟩ = some (.int .i64 c.st) := fun u hu => (HX1.out.below hu hlt).cell 1
    have k2 : ∀ u, Below w1.heap.size w1 u → u.cell? ⟨w.heap.size, 2, none⟩ = some (.bool c.un) := fun u hu => (HX1.out.below hu hlt).cell 2
    have k3 : ∀ u, Below w1.heap.size w1 u → u.cell? ⟨w.heap.size, 3, none⟩ = some (.int .i64 c.tr) := fun u hu => (HX1.out.below hu hlt).cell 3
    have k4 : ∀ u, Below w1.heap.size w1 u → u.cell? ⟨w.heap.size, 4, none⟩ = some (.string c.pt) := fun u hu => (HX1.out.below hu hlt).cell 4
    have k5 : ∀ u, Below w1.heap.size w1 u → u.cell? ⟨w.heap.size, 5, none⟩ = some (.string c.ky) := fun u hu => (HX1.out.below hu hlt).cell 5
    have HJ : Hid (∀ u, Below w1.heap.size w1 u → Calls Tryd.prog 23 #[.slice (some ⟨u.heap.size, 0, none⟩) 7 7] (u.alloc (.cells #[.string ⟨#[115, 101, 110, 100]⟩, .string d1, .string d2, .string wy, .string d3, .string c.pt, .string c.ky] 9)) fun e w' => e = .returned (.string (tx L)) ∧ Below w1.heap.size w1 w') := Lib.hid fun u hu => HJ0.out u w1.heap.size w1 hu hu.size
    have EHD1 : Hid (∀ u, Below w1.heap.size w1 u → Calls Tryd.prog 24 #[.int .i64 c.sg] u fun e w' => e = .returned (.string d1) ∧ Below w1.heap.size w1 w') := Lib.hid fun u hu => (HD1.out u (HB1.out.trans (hu.mono HB1.out.size))).mono fun e w' ⟨h1, h2⟩ => ⟨h1, hu.trans (h2.mono hu.size)⟩
    have EHD2 : Hid (∀ u, Below w1.heap.size w1 u → Calls Tryd.prog 24 #[.int .i64 c.st] u fun e w' => e = .returned (.string d2) ∧ Below w1.heap.size w1 w') := Lib.hid fun u hu => (HD2.out u (HB1.out.trans (hu.mono HB1.out.size))).mono fun e w' ⟨h1, h2⟩ => ⟨h1, hu.trans (h2.mono hu.size)⟩
    have EHD3 : Hid (∀ u, Below w1.heap.size w1 u → Calls Tryd.prog 24 #[.int .i64 c.tr] u fun e w' => e = .returned (.string d3) ∧ Below w1.heap.size w1 w') := Lib.hid fun u hu => (HD3.out u (HB1.out.trans (hu.mono HB1.out.size))).mono fun e w' ⟨h1, h2⟩ => ⟨h1, hu.trans (h2.mono hu.size)⟩
    have EHW : Hid (∀ u, Below w1.heap.size w1 u → Calls Tryd.prog 25 #[.bool c.un] u fun e w' => e = .returned (.string wy) ∧ Below w1.heap.size w1 w') := Lib.hid fun u hu => (HW.out u).mono fun e w' ⟨h1, h2⟩ => ⟨h1, h2 ▸ hu⟩
    have hz1 := HB1.out.size
    clear HX1 HX hlt HJ0 HC HD1 HD2 HD3 HW
    go_region_held3 (fun u => Below w1.heap.size w1 u) (first | exact Below.refl _ _ | exact Below.drew (Below.refl _ _) | assumption | exact Below.alloc hw' hw'.size _)
      (first
        | (go_at_call 24; (with_reducible refine (EHD1.out _ ?_).mono ?_); (first | assumption | exact Below.drew (Below.refl _ _) | exact Below.refl _ _); rintro e w' ⟨rfl, hw'⟩)
        | (go_at_call 24; (with_reducible refine (EHD2.out _ ?_).mono ?_); (first | assumption | exact Below.drew (Below.refl _ _) | exact Below.refl _ _); rintro e w' ⟨rfl, hw'⟩)
        | (go_at_call 24; (with_reducible refine (EHD3.out _ ?_).mono ?_); (first | assumption | exact Below.drew (Below.refl _ _) | exact Below.refl _ _); rintro e w' ⟨rfl, hw'⟩)
        | (go_at_call 25; (with_reducible refine (EHW.out _ ?_).mono ?_); (first | assumption | exact Below.drew (Below.refl _ _) | exact Below.refl _ _); rintro e w' ⟨rfl, hw'⟩)
        | (go_at_call 23; (with_reducible refine (HJ.out _ ?_).mono ?_); (first | assumption | exact Below.drew (Below.refl _ _) | exact Below.refl _ _); rintro e w2 ⟨rfl, hw2⟩))
    all_goals
      go_wp2
      go_ret
      exact ⟨rfl, HB1.out.trans (hw2.mono hz1)⟩
set_option maxRecDepth 100000 in
set_option maxHeartbeats 4000000 in
theorem replyLine_any (c : Rp) (w : World) (hG : Gl w) :
    Calls Tryd.prog 11 #[.agg #[.int .i64 c.sg, .int .i64 c.st, .bool c.un, .int .i64 c.tr, .bool c.gd]] w fun e w' => e = .returned (.string (tx (lnR c))) ∧ Below w.heap.size w w' := by
  have HB0 := Lib.hid ((Below.refl w.heap.size w).alloc (Nat.le_refl _) (.cells #[.int .i64 c.sg, .int .i64 c.st, .bool c.un, .int .i64 c.tr, .bool c.gd] 25))
  have HC := Lib.hid (goodReply_any c (w.alloc (.cells #[.int .i64 c.sg, .int .i64 c.st, .bool c.un, .int .i64 c.tr, .bool c.gd] 25)))
  have HX := Lib.hid (Box.new w 25 #[.int .i64 c.sg, .int .i64 c.st, .bool c.un, .int .i64 c.tr, .bool c.gd])
  cases hgb : goodR c
  · rw [hgb] at HC
    have e : lnR c = [] := by unfold lnR; rw [hgb]; rfl
    rw [e]
    clear hgb e hG
    unfold tx
    go_enter Tryd.func11, Tryd.ntmps11
    go_wp2_with (go_at_call 8; (with_reducible refine HC.out.mono ?_); rintro e w1 ⟨rfl, hb1⟩; have HB1 := Lib.hid hb1; clear hb1)
    go_ret
    exact ⟨rfl, HB0.out.trans (HB1.out.mono (by simp))⟩
  · rw [hgb] at HC
    have hg : GoodR c := of_decide_eq_true hgb
    have e : lnR c = lineR c := by unfold lnR; rw [hgb]; rfl
    rw [e]
    obtain ⟨d1, hd1⟩ : ∃ x, x = tx (dg c.sg) := ⟨_, rfl⟩
    obtain ⟨d2, hd2⟩ : ∃ x, x = tx (dg c.st) := ⟨_, rfl⟩
    obtain ⟨d3, hd3⟩ : ∃ x, x = tx (dg c.tr) := ⟨_, rfl⟩
    obtain ⟨wy, hwy⟩ : ∃ x, x = tx (way c.un) := ⟨_, rfl⟩
    obtain ⟨hw0, hh0⟩ : ∃ x, x = tx (how c.gd) := ⟨_, rfl⟩
    have hll := line_lenR hg
    have HJ0 := Lib.hid (line_any [⟨#[114, 101, 112, 108, 121]⟩, d1, d2, wy, d3, hw0] (lineR c) (by
      simp only [List.map_cons, List.map_nil]
      rw [hd1, hd2, hd3, hwy, hh0, tx_list, tx_list, tx_list, tx_list, tx_list, join6]
      rfl) (by omega) (by simp))
    have HT0 := Lib.hid (fun (u : World) (hu : Below w.heap.size w u) => (hG.on hu).t)
    have HD1 := Lib.hid (fun (u : World) (hu : Below w.heap.size w u) => digits_any c.sg u (HT0.out u hu) hg.1.1 (by have := hg.1.2; omega))
    have HD2 := Lib.hid (fun (u : World) (hu : Below w.heap.size w u) => digits_any c.st u (HT0.out u hu) hg.2.1.1 (by have := hg.2.1.2; omega))
    have HD3 := Lib.hid (fun (u : World) (hu : Below w.heap.size w u) => digits_any c.tr u (HT0.out u hu) hg.2.2.1 (by have := hg.2.2.2; omega))
    have HW := Lib.hid (way_any c.un)
    have HO := Lib.hid (how_any c.gd)
    rw [← hh0] at HO
    rw [← hd1] at HD1
    rw [← hd2] at HD2
    rw [← hd3] at HD3
    rw [← hwy] at HW
    generalize lineR c = L at *
    clear hgb e hG hg hll hd1 hd2 hd3 hwy hh0 HT0
    go_enter Tryd.func11, Tryd.ntmps11
    go_wp2_with (go_at_call 8; (with_reducible refine HC.out.mono ?_); rintro e w1 ⟨rfl, hb1⟩; have HB1 := Lib.hid (HB0.out.trans (hb1.mono (by simp))); have HX1 := Lib.hid (HX.out.below hb1 (by simp)); clear hb1)
    have hlt := HX1.out.lt
    have k0 : ∀ u, Below w1.heap.size w1 u → u.cell? ⟨w.heap.size, 0, none⟩ = some (.int .i64 c.sg) := fun u hu => (HX1.out.below hu hlt).cell 0
    have k1 : ∀ u, Below w1.heap.size w1 u → u.cell? ⟨w.heap.size, 1, none⟩ = some (.int .i64 c.st) := fun u hu => (HX1.out.below hu hlt).cell 1
    have k2 : ∀ u, Below w1.heap.size w1 u → u.cell? ⟨w.heap.size, 2, none⟩ = some (.bool c.un) := fun u hu => (HX1.out.below hu hlt).cell 2
    have k3 : ∀ u, Below w1.heap.size w1 u → u.cell? ⟨w.heap.size, 3, none⟩ = some (.int .i64 c.tr) := fun u hu => (HX1.out.below hu hlt).cell 3
    have k4 : ∀ u, Below w1.heap.size w1 u → u.cell? ⟨w.heap.size, 4, none⟩ = some (.bool c.gd) := fun u hu => (HX1.out.below hu hlt).cell 4
    have HJ : Hid (∀ u, Below w1.heap.size w1 u → Calls Tryd.prog 23 #[.slice (some ⟨u.heap.size, 0, none⟩) 6 6] (u.alloc (.cells #[.string ⟨#[114, 101, 112, 108, 121]⟩, .string d1, .string d2, .string wy, .string d3, .string hw0] 9)) fun e w' => e = .returned (.string (tx L)) ∧ Below w1.heap.size w1 w') := Lib.hid fun u hu => HJ0.out u w1.heap.size w1 hu hu.size
    have EHD1 : Hid (∀ u, Below w1.heap.size w1 u → Calls Tryd.prog 24 #[.int .i64 c.sg] u fun e w' => e = .returned (.string d1) ∧ Below w1.heap.size w1 w') := Lib.hid fun u hu => (HD1.out u (HB1.out.trans (hu.mono HB1.out.size))).mono fun e w' ⟨h1, h2⟩ => ⟨h1, hu.trans (h2.mono hu.size)⟩
    have EHD2 : Hid (∀ u, Below w1.heap.size w1 u → Calls Tryd.prog 24 #[.int .i64 c.st] u fun e w' => e = .returned (.string d2) ∧ Below w1.heap.size w1 w') := Lib.hid fun u hu => (HD2.out u (HB1.out.trans (hu.mono HB1.out.size))).mono fun e w' ⟨h1, h2⟩ => ⟨h1, hu.trans (h2.mono hu.size)⟩
    have EHD3 : Hid (∀ u, Below w1.heap.size w1 u → Calls Tryd.prog 24 #[.int .i64 c.tr] u fun e w' => e = .returned (.string d3) ∧ Below w1.heap.size w1 w') := Lib.hid fun u hu => (HD3.out u (HB1.out.trans (hu.mono HB1.out.size))).mono fun e w' ⟨h1, h2⟩ => ⟨h1, hu.trans (h2.mono hu.size)⟩
    have EHW : Hid (∀ u, Below w1.heap.size w1 u → Calls Tryd.prog 25 #[.bool c.un] u fun e w' => e = .returned (.string wy) ∧ Below w1.heap.size w1 w') := Lib.hid fun u hu => (HW.out u).mono fun e w' ⟨h1, h2⟩ => ⟨h1, h2 ▸ hu⟩
    have EHO : Hid (∀ u, Below w1.heap.size w1 u → Calls Tryd.prog 26 #[.bool c.gd] u fun e w' => e = .returned (.string hw0) ∧ Below w1.heap.size w1 w') := Lib.hid fun u hu => (HO.out u).mono fun e w' ⟨h1, h2⟩ => ⟨h1, h2 ▸ hu⟩
    have hz1 := HB1.out.size
    clear HX1 HX hlt HJ0 HC HD1 HD2 HD3 HW HO
    go_region_held3 (fun u => Below w1.heap.size w1 u) (first | exact Below.refl _ _ | exact Below.drew (Below.refl _ _) | assumption | exact Below.alloc hw' hw'.size _)
      (first
        | (go_at_call 24; (with_reducible refine (EHD1.out _ ?_).mono ?_); (first | assumption | exact Below.drew (Below.refl _ _) | exact Below.refl _ _); rintro e w' ⟨rfl, hw'⟩)
        | (go_at_call 24; (with_reducible refine (EHD2.out _ ?_).mono ?_); (first | assumption | exact Below.drew (Below.refl _ _) | exact Below.refl _ _); rintro e w' ⟨rfl, hw'⟩)
        | (go_at_call 24; (with_reducible refine (EHD3.out _ ?_).mono ?_); (first | assumption | exact Below.drew (Below.refl _ _) | exact Below.refl _ _); rintro e w' ⟨rfl, hw'⟩)
        | (go_at_call 25; (with_reducible refine (EHW.out _ ?_).mono ?_); (first | assumption | exact Below.drew (Below.refl _ _) | exact Below.refl _ _); rintro e w' ⟨rfl, hw'⟩)
        | (go_at_call 26; (with_reducible refine (EHO.out _ ?_).mono ?_); (first | assumption | exact Below.drew (Below.refl _ _) | exact Below.refl _ _); rintro e w' ⟨rfl, hw'⟩)
        | (go_at_call 23; (with_reducible refine (HJ.out _ ?_).mono ?_); (first | assumption | exact Below.drew (Below.refl _ _) | exact Below.refl _ _); rintro e w2 ⟨rfl, hw2⟩))
    all_goals
      go_wp2
      go_ret
      exact ⟨rfl, HB1.out.trans (hw2.mono hz1)⟩
end Go.Proofs.YtllpjfbcjcnpcaaDoor.Wi
