/-
  What the document tells of a store holds.
  Conditions: none.
-/
import Derived.Test.YthfekmmcdfkigaaStoAny
import Derived.Lib.SlBytesConst
namespace Go.Proofs.Ythfekmmcdfkigaa
open Go.RowKit Go.Maps

theorem Byt.two (w : World) (t : TypeId) (z : Nat × Nat) (a b : UInt8) {x y : Int} (hx : x = (a.toNat : Int)) (hy : y = (b.toNat : Int)) : Byt (w.alloc (.cells #[.int .u8 x, .int .u8 y] t z)) (w.heap.size + 1) (some ⟨w.heap.size, 0, Option.none⟩) [a, b] := fun _ => by
  subst hx hy
  refine ⟨w.heap.size, 0, rfl, by omega, fun k hk => ?_⟩
  rw [cell_of_row _ _ _ _ _ _ (heap_alloc_new w _)]
  have h : k = 0 ∨ k = 1 := by simp at hk; omega
  rcases h with rfl | rfl <;> simp
theorem Ints.one (w : World) (X : Nat → Prop) (t : TypeId) (x : Int) (hX : X w.heap.size) (h1 : -9223372036854775808 ≤ x) (h2 : x ≤ 9223372036854775807) : Ints (w.alloc (.cells #[.int .i64 x] t)) X (some ⟨w.heap.size, 0, none⟩) [x] :=
  ⟨fun _ => ⟨w.heap.size, 0, rfl, hX, by simp, fun k hk => by
    have h : k = 0 := by simp at hk; omega
    subst h
    rw [cell_of_row _ _ _ _ _ _ (heap_alloc_new w _)]
    simp⟩, fun y hy => by simp at hy; subst hy; exact ⟨h1, h2⟩⟩
theorem nameB_a : nameB (ByteArray.mk #[97]).data.toList = true := by decide
theorem nameB_x : nameB (ByteArray.mk #[120]).data.toList = true := by decide

theorem aw1 : (St.append ⟨[], 10, 0, false⟩ true [97] [97, 98]) = (⟨[⟨[97], [97, 98], 0, false⟩], 10, 0, false⟩, 0) := rfl
theorem aw2 : (St.sync ⟨[⟨[97], [97, 98], 0, false⟩], 10, 0, false⟩ [97]) = (⟨[⟨[97], [97, 98], 2, true⟩], 10, 0, false⟩, 0) := rfl
theorem aw3 : (St.append ⟨[⟨[97], [97, 98], 2, true⟩], 10, 0, false⟩ true [97] [99, 100]) = (⟨[⟨[97], [97, 98, 99, 100], 2, true⟩], 10, 0, false⟩, 0) := rfl
theorem aw4 : (St.boot ⟨[⟨[97], [97, 98, 99, 100], 2, true⟩], 10, 0, true⟩ [1]) = (⟨[⟨[97], [97, 98, 99], 3, true⟩], 10, 0, false⟩, 0) := rfl
theorem aw5 : readB ⟨[⟨[97], [97, 98, 99], 3, true⟩], 10, 0, false⟩ [97] = [97, 98, 99] ∧ readE ⟨[⟨[97], [97, 98, 99], 3, true⟩], 10, 0, false⟩ [97] = 0 := ⟨rfl, rfl⟩
theorem done_to {w w' : World} {g : Nat} {X : Nat → Prop} {r : St × Nat} {st : St} {n : Nat} {z : Int} {e : Ending} (h : Done w g X r e w') (hr : r = (st, n)) (hz : (n : Int) = z) : e = .returned (.int .i64 z) ∧ Sto w' g X st ∧ Keep X w w' := by
  subst hr hz
  exact h
theorem read_to {w w' : World} {bs l : List UInt8} {er : Nat} {z : Int} {e : Ending} (h : ReadIs w bs er e w') (hb : bs = l) (hz : (er : Int) = z) :
    ∃ A c, e = .returned (.tuple #[.slice A l.length c, .int .i64 z]) ∧ Byt w' w'.heap.size A l ∧ l.length ≤ c ∧ Below w.heap.size w w' := by
  subst hb hz
  obtain ⟨v, rfl, ho, hb⟩ := h
  obtain ⟨A, c, rfl, hc⟩ := own_form ho
  exact ⟨A, c, rfl, Byt.own ho, hc, hb⟩
theorem Sto.plus {W : World} {g : Nat} {X : Nat → Prop} {st : St} (h : Sto W g X st) (o : Obj) : Sto (W.alloc o) g (fun i => X i ∨ i = W.heap.size) st :=
  (h.wide ((Below.refl _ W).alloc (Nat.le_refl _) o)).less (fun i hi => hi.imp id (fun e => by subst e; simp))

set_option maxHeartbeats 2000000 in
set_option maxRecDepth 100000 in
theorem awake_any (w : World) : Calls Try.prog 7 #[] w fun e w' => e = .returned (.bool true) ∧ Below w.heap.size w w' := by
  have HN := Lib.hid (new_any 10 w (by omega) (by omega))
  have hcv := fun (W : World) (C : Array Value) (n c : Nat) => Lib.run_convert_bytes_const (P := Try.prog) W 28 5 C n c Try.underlying28 Try.underlying5
  go_enter Try.func7, Try.ntmps7
  go_wp2_with fail
  refine HN.out.mono ?_
  rintro e W1 ⟨rfl, hS1, hb1⟩
  obtain ⟨X, hX⟩ : ∃ X : Nat → Prop, X = fun i => i < w.heap.size := ⟨_, rfl⟩
  rw [← hX] at hS1
  obtain ⟨g, hg⟩ : ∃ g, g = w.heap.size + 1 := ⟨_, rfl⟩
  rw [← hg] at hS1 ⊢
  have HX := Lib.hid hX
  clear hX hg HN
  go_wp2_with fail
  have b2 := (Below.refl W1.heap.size W1).alloc (Nat.le_refl _) (.cells #[.int .u8 97, .int .u8 98] 5 (2, 3))
  refine (append_any g X _ (.mk #[97]) _ [97, 98] 2 _ (hS1.below b2) (by decide) ((Byt.two W1 5 (2, 3) 97 98 rfl rfl).more (by simp))).mono ?_
  intro e W2 hD
  obtain ⟨rfl, hS2, hK2⟩ := done_to hD (by rw [nameB_a]; exact aw1) (z := 0) rfl
  have k2 : Below w.heap.size w W2 := hb1.trans (((Keep.of_below (X := X) b2).trans hK2).below hb1.size (fun i hi => by rw [HX.out]; exact hi))
  clear hK2 b2 hD hS1 hb1
  go_wp2_with fail
  refine (sync_any g X _ (.mk #[97]) _ hS2 (by decide)).mono ?_
  intro e W3 hD
  obtain ⟨rfl, hS3, hK3⟩ := done_to hD aw2 (z := 0) rfl
  have k3 : Below w.heap.size w W3 := k2.trans (hK3.below k2.size (fun i hi => by rw [HX.out]; exact hi))
  clear hK3 hD hS2 k2
  go_wp2_with fail
  have b4 := (Below.refl W3.heap.size W3).alloc (Nat.le_refl _) (.cells #[.int .u8 99, .int .u8 100] 5 (2, 3))
  refine (append_any g X _ (.mk #[97]) _ [99, 100] 2 _ (hS3.below b4) (by decide) ((Byt.two W3 5 (2, 3) 99 100 rfl rfl).more (by simp))).mono ?_
  intro e W4 hD
  obtain ⟨rfl, hS4, hK4⟩ := done_to hD (by rw [nameB_a]; exact aw3) (z := 0) rfl
  have k4 : Below w.heap.size w W4 := k3.trans (((Keep.of_below (X := X) b4).trans hK4).below k3.size (fun i hi => by rw [HX.out]; exact hi))
  clear hK4 b4 hD hS3 k3
  go_wp2_with fail
  refine (crash_any g X _ _ hS4).mono ?_
  rintro e W5 ⟨rfl, hS5, hK5⟩
  have k5 : Below w.heap.size w W5 := k4.trans (hK5.below k4.size (fun i hi => by rw [HX.out]; exact hi))
  clear hK5 hS4 k4
  go_wp2_with fail
  have b6 := (Below.refl W5.heap.size W5).alloc (Nat.le_refl _) (.cells #[.int .i64 1] 3)
  have hS5' := hS5.plus (.cells #[.int .i64 1] 3)
  refine (boot_any g _ _ _ _ [1] 1 hS5' (Ints.one W5 _ 3 1 (.inr rfl) (by omega) (by omega)) (by simp)).mono ?_
  intro e W6 hD
  obtain ⟨rfl, hS6, hK6⟩ := done_to hD aw4 (z := 0) rfl
  have k6 : Below w.heap.size w W6 := k5.trans (((Keep.of_below b6).trans hK6).below k5.size (fun i hi => .inl (by rw [HX.out]; exact hi)))
  clear hK6 hD hS5 hS5' k5 b6
  go_wp2_with fail
  refine (read_any g _ _ (.mk #[97]) _ hS6 (by decide)).mono ?_
  intro e W7 hD
  obtain ⟨A, c, rfl, hby, hc, hb7⟩ := read_to hD aw5.1 (z := 0) (by rw [aw5.2]; rfl)
  have k7 : Below w.heap.size w W7 := k6.trans (hb7.mono k6.size)
  have hcv2 := hby.text (P := Try.prog) 28 5 9 Try.underlying28 Try.underlying5 Try.underlying9 c
  simp only [List.length_cons, List.length_nil, Nat.zero_add, Nat.reduceAdd] at hcv2 ⊢
  clear hD hS6 k6 hb7 hcv
  go_wp2
  go_ret
  exact ⟨rfl, k7⟩
end Go.Proofs.Ythfekmmcdfkigaa
