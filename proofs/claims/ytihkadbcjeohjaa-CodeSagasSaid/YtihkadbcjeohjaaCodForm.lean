/-
  The document's own forms: a text's, a flag's, a plan's, a saga's.
  Conditions: texts have at most 2^40 bytes.
-/
import Derived.Test.YtihkadbcjeohjaaCodNum
import Derived.Test.YtihkadbcjeohjaaCodMath
import Derived.Test.YtihkadbcjeohjaaDefEnd
import Derived.Shelf.SlSortCmp.QuietGrown
namespace Go.Proofs.Ytihkadbcjeohjaa.Co
open Go.RowKit Go.Sort
open Go.Proofs.Ytihkadbcjeohjaa.El
open Go.Proofs.Ytihkadbcjeohjaa.Df
open Go.Proofs.Ytihkadbcjeohjaa.Bo (P Made ret_int ret_bool)
open Go.Proofs.Ytihkadbcjeohjaa.Sa (Sg Rp)

/-- bytes as a text -/
def sb (L : List UInt8) : ByteArray := ⟨L.toArray⟩
theorem sb_size (L : List UInt8) : (sb L).size = L.length := by
  show L.toArray.size = _
  simp
theorem sb_app (L M : List UInt8) : sb L ++ sb M = sb (L ++ M) := by
  apply ByteArray.ext
  apply Array.toList_inj.1
  rw [ByteArray.data_append]
  simp [sb]
theorem sb_self (s : ByteArray) : sb s.data.toList = s := by
  cases s
  rfl
theorem rnum_s (n : Int) (w : World) : Calls Try.prog 29 #[.int .i64 n] w fun e w' => e = .returned (.string (sb (nF n))) ∧ Made w w' := xnum_any n w
theorem rtext_s (s : ByteArray) (w : World) (hs : s.size ≤ 1099511627776) : Calls Try.prog 28 #[.string s] w fun e w' => e = .returned (.string (sb (tF s))) ∧ Made w w' := by
  have HN := Lib.hid (rnum_s (s.size : Int) w)
  obtain ⟨b, hb⟩ : ∃ b, b = sb (nF (s.size : Int)) := ⟨_, rfl⟩
  have hz : b.size = 8 := by rw [hb, sb_size, nF_len]
  rw [← hb] at HN
  have HB : Hid (b ++ s = sb (tF s)) := Lib.hid (by
    rw [hb]
    conv => lhs; rw [← sb_self s]
    rw [sb_app, sb_self]
    unfold tF nF
    rw [clp_of (by omega)])
  have hg : ¬ 9223372036854775807 < b.size + s.size := by omega
  clear hb
  go_enter Try.func28, Try.ntmps28
  go_wp2_with fail
  refine HN.out.mono ?_
  rintro e w1 ⟨rfl, hm⟩
  go_wp2_with fail
  go_ret
  exact ⟨by rw [← HB.out]; rfl, hm⟩
theorem rflag_s (y : Bool) (w : World) : Calls Try.prog 49 #[.bool y] w fun e w' => e = .returned (.string (sb (fF y))) ∧ Made w w' := by
  cases y
  all_goals
    go_enter Try.func49, Try.ntmps49
    go_wp2
    go_ret
    exact ⟨rfl, Made.refl _⟩
theorem made_grow (w : World) (q : Nat) (os : Array Obj) : Made w (grow (w.drewN q) os) := ⟨q, os, rfl⟩
set_option maxHeartbeats 4000000 in
set_option maxRecDepth 100000 in
theorem rplan_s (p : P) (w : World) : Calls Try.prog 30 #[.agg #[.int .i64 p.r, .int .i64 p.b, .int .i64 p.f, .int .i64 p.c]] w fun e w' => e = .returned (.string (sb (planF p))) ∧ Made w w' := by
  obtain ⟨b0, hb0⟩ : ∃ b, b = sb (nF p.r) := ⟨_, rfl⟩
  have HN0 : Hid (∀ W, Calls Try.prog 29 #[.int .i64 p.r] W fun e w2 => e = .returned (.string b0) ∧ Made W w2) := Lib.hid fun W => by rw [hb0]; exact rnum_s p.r W
  have hz0 : b0.size = 8 := by rw [hb0, sb_size, nF_len]
  obtain ⟨b1, hb1⟩ : ∃ b, b = sb (nF p.b) := ⟨_, rfl⟩
  have HN1 : Hid (∀ W, Calls Try.prog 29 #[.int .i64 p.b] W fun e w2 => e = .returned (.string b1) ∧ Made W w2) := Lib.hid fun W => by rw [hb1]; exact rnum_s p.b W
  have hz1 : b1.size = 8 := by rw [hb1, sb_size, nF_len]
  obtain ⟨b2, hb2⟩ : ∃ b, b = sb (nF p.f) := ⟨_, rfl⟩
  have HN2 : Hid (∀ W, Calls Try.prog 29 #[.int .i64 p.f] W fun e w2 => e = .returned (.string b2) ∧ Made W w2) := Lib.hid fun W => by rw [hb2]; exact rnum_s p.f W
  have hz2 : b2.size = 8 := by rw [hb2, sb_size, nF_len]
  obtain ⟨b3, hb3⟩ : ∃ b, b = sb (nF p.c) := ⟨_, rfl⟩
  have HN3 : Hid (∀ W, Calls Try.prog 29 #[.int .i64 p.c] W fun e w2 => e = .returned (.string b3) ∧ Made W w2) := Lib.hid fun W => by rw [hb3]; exact rnum_s p.c W
  have hz3 : b3.size = 8 := by rw [hb3, sb_size, nF_len]
  have HB : Hid ((((b0 ++ b1) ++ b2) ++ b3) = sb (planF p)) := Lib.hid (by
    rw [hb0, hb1, hb2, hb3]
    simp only [sb_app]
    unfold planF
    simp only [List.append_assoc])
  have hg1 : ¬ 9223372036854775807 < b0.size + b1.size := by omega
  have hg2 : ¬ 9223372036854775807 < b0.size + b1.size + b2.size := by omega
  have hg3 : ¬ 9223372036854775807 < b0.size + b1.size + b2.size + b3.size := by omega
  clear hb0 hb1 hb2 hb3 hz0 hz1 hz2 hz3
  have mixed : Try.prog.follows .mixedOrders = true := by kernel_rfl
  have HX := Lib.hid (Box.new w 65 #[.int .i64 p.r, .int .i64 p.b, .int .i64 p.f, .int .i64 p.c])
  have HM := Lib.hid (Made.alloc w (.cells #[.int .i64 p.r, .int .i64 p.b, .int .i64 p.f, .int .i64 p.c] 65))
  go_enter Try.func30, Try.ntmps30
  go_upto_region 1 with fail
  generalize w.alloc (.cells #[.int .i64 p.r, .int .i64 p.b, .int .i64 p.f, .int .i64 p.c] 65) = W0 at *
  have c0 : ∀ n os, (grow (W0.drewN n) os).cell? ⟨w.heap.size, 0, none⟩ = some (.int .i64 p.r) := fun n os => cell_grown HX.out.lt (HX.out.cell 0) n os
  have c1 : ∀ n os, (grow (W0.drewN n) os).cell? ⟨w.heap.size, 1, none⟩ = some (.int .i64 p.b) := fun n os => cell_grown HX.out.lt (HX.out.cell 1) n os
  have c2 : ∀ n os, (grow (W0.drewN n) os).cell? ⟨w.heap.size, 2, none⟩ = some (.int .i64 p.f) := fun n os => cell_grown HX.out.lt (HX.out.cell 2) n os
  have c3 : ∀ n os, (grow (W0.drewN n) os).cell? ⟨w.heap.size, 3, none⟩ = some (.int .i64 p.c) := fun n os => cell_grown HX.out.lt (HX.out.cell 3) n os
  go_quiet_grown (first
    | (go_at_call 29; with_reducible exact Calls.grown_of (HN0.out _))
    | (go_at_call 29; with_reducible exact Calls.grown_of (HN1.out _))
    | (go_at_call 29; with_reducible exact Calls.grown_of (HN2.out _))
    | (go_at_call 29; with_reducible exact Calls.grown_of (HN3.out _)))
  go_wp2_with fail
  go_ret
  exact ⟨by rw [← HB.out]; rfl, HM.out.trans (made_grow _ _ _)⟩
set_option maxHeartbeats 4000000 in
set_option maxRecDepth 100000 in
theorem rsaga_s (s : Sg) (w : World) (hs : s.dn.size ≤ 1000000) : Calls Try.prog 18 #[.agg #[.int .i64 s.id, .string s.dn, .int .i64 s.st, .int .i64 s.ph, .int .i64 s.sp, .int .i64 s.tr, .bool s.out, .int .i64 s.at_, .int .i64 s.sk]] w fun e w' => e = .returned (.string (sb (sagaF s))) ∧ Made w w' := by
  obtain ⟨b0, hb0⟩ : ∃ b, b = sb (nF s.id) := ⟨_, rfl⟩
  have HN0 : Hid (∀ W, Calls Try.prog 29 #[.int .i64 s.id] W fun e w2 => e = .returned (.string b0) ∧ Made W w2) := Lib.hid fun W => by rw [hb0]; exact rnum_s s.id W
  have hz0 : b0.size = 8 := by rw [hb0, sb_size, nF_len]
  obtain ⟨b1, hb1⟩ : ∃ b, b = sb (tF s.dn) := ⟨_, rfl⟩
  have HN1 : Hid (∀ W, Calls Try.prog 28 #[.string s.dn] W fun e w2 => e = .returned (.string b1) ∧ Made W w2) := Lib.hid fun W => by rw [hb1]; exact rtext_s s.dn W (by omega)
  have hz1 : b1.size = 8 + (s.dn).size := by rw [hb1, sb_size, tF_len]
  obtain ⟨b2, hb2⟩ : ∃ b, b = sb (nF s.st) := ⟨_, rfl⟩
  have HN2 : Hid (∀ W, Calls Try.prog 29 #[.int .i64 s.st] W fun e w2 => e = .returned (.string b2) ∧ Made W w2) := Lib.hid fun W => by rw [hb2]; exact rnum_s s.st W
  have hz2 : b2.size = 8 := by rw [hb2, sb_size, nF_len]
  obtain ⟨b3, hb3⟩ : ∃ b, b = sb (nF s.ph) := ⟨_, rfl⟩
  have HN3 : Hid (∀ W, Calls Try.prog 29 #[.int .i64 s.ph] W fun e w2 => e = .returned (.string b3) ∧ Made W w2) := Lib.hid fun W => by rw [hb3]; exact rnum_s s.ph W
  have hz3 : b3.size = 8 := by rw [hb3, sb_size, nF_len]
  obtain ⟨b4, hb4⟩ : ∃ b, b = sb (nF s.sp) := ⟨_, rfl⟩
  have HN4 : Hid (∀ W, Calls Try.prog 29 #[.int .i64 s.sp] W fun e w2 => e = .returned (.string b4) ∧ Made W w2) := Lib.hid fun W => by rw [hb4]; exact rnum_s s.sp W
  have hz4 : b4.size = 8 := by rw [hb4, sb_size, nF_len]
  obtain ⟨b5, hb5⟩ : ∃ b, b = sb (nF s.tr) := ⟨_, rfl⟩
  have HN5 : Hid (∀ W, Calls Try.prog 29 #[.int .i64 s.tr] W fun e w2 => e = .returned (.string b5) ∧ Made W w2) := Lib.hid fun W => by rw [hb5]; exact rnum_s s.tr W
  have hz5 : b5.size = 8 := by rw [hb5, sb_size, nF_len]
  obtain ⟨b6, hb6⟩ : ∃ b, b = sb (fF s.out) := ⟨_, rfl⟩
  have HN6 : Hid (∀ W, Calls Try.prog 49 #[.bool s.out] W fun e w2 => e = .returned (.string b6) ∧ Made W w2) := Lib.hid fun W => by rw [hb6]; exact rflag_s s.out W
  have hz6 : b6.size = 1 := by rw [hb6, sb_size, fF_len]
  obtain ⟨b7, hb7⟩ : ∃ b, b = sb (nF s.at_) := ⟨_, rfl⟩
  have HN7 : Hid (∀ W, Calls Try.prog 29 #[.int .i64 s.at_] W fun e w2 => e = .returned (.string b7) ∧ Made W w2) := Lib.hid fun W => by rw [hb7]; exact rnum_s s.at_ W
  have hz7 : b7.size = 8 := by rw [hb7, sb_size, nF_len]
  obtain ⟨b8, hb8⟩ : ∃ b, b = sb (nF s.sk) := ⟨_, rfl⟩
  have HN8 : Hid (∀ W, Calls Try.prog 29 #[.int .i64 s.sk] W fun e w2 => e = .returned (.string b8) ∧ Made W w2) := Lib.hid fun W => by rw [hb8]; exact rnum_s s.sk W
  have hz8 : b8.size = 8 := by rw [hb8, sb_size, nF_len]
  have HB : Hid (((((((((b0 ++ b1) ++ b2) ++ b3) ++ b4) ++ b5) ++ b6) ++ b7) ++ b8) = sb (sagaF s)) := Lib.hid (by
    rw [hb0, hb1, hb2, hb3, hb4, hb5, hb6, hb7, hb8]
    simp only [sb_app]
    unfold sagaF
    simp only [List.append_assoc])
  have hg1 : ¬ 9223372036854775807 < b0.size + b1.size := by omega
  have hg2 : ¬ 9223372036854775807 < b0.size + b1.size + b2.size := by omega
  have hg3 : ¬ 9223372036854775807 < b0.size + b1.size + b2.size + b3.size := by omega
  have hg4 : ¬ 9223372036854775807 < b0.size + b1.size + b2.size + b3.size + b4.size := by omega
  have hg5 : ¬ 9223372036854775807 < b0.size + b1.size + b2.size + b3.size + b4.size + b5.size := by omega
  have hg6 : ¬ 9223372036854775807 < b0.size + b1.size + b2.size + b3.size + b4.size + b5.size + b6.size := by omega
  have hg7 : ¬ 9223372036854775807 < b0.size + b1.size + b2.size + b3.size + b4.size + b5.size + b6.size + b7.size := by omega
  have hg8 : ¬ 9223372036854775807 < b0.size + b1.size + b2.size + b3.size + b4.size + b5.size + b6.size + b7.size + b8.size := by omega
  clear hb0 hb1 hb2 hb3 hb4 hb5 hb6 hb7 hb8 hz0 hz1 hz2 hz3 hz4 hz5 hz6 hz7 hz8
  have mixed : Try.prog.follows .mixedOrders = true := by kernel_rfl
  have HX := Lib.hid (Box.new w 40 #[.int .i64 s.id, .string s.dn, .int .i64 s.st, .int .i64 s.ph, .int .i64 s.sp, .int .i64 s.tr, .bool s.out, .int .i64 s.at_, .int .i64 s.sk])
  have HM := Lib.hid (Made.alloc w (.cells #[.int .i64 s.id, .string s.dn, .int .i64 s.st, .int .i64 s.ph, .int .i64 s.sp, .int .i64 s.tr, .bool s.out, .int .i64 s.at_, .int .i64 s.sk] 40))
  go_enter Try.func18, Try.ntmps18
  go_upto_region 1 with fail
  generalize w.alloc (.cells #[.int .i64 s.id, .string s.dn, .int .i64 s.st, .int .i64 s.ph, .int .i64 s.sp, .int .i64 s.tr, .bool s.out, .int .i64 s.at_, .int .i64 s.sk] 40) = W0 at *
  have c0 : ∀ n os, (grow (W0.drewN n) os).cell? ⟨w.heap.size, 0, none⟩ = some (.int .i64 s.id) := fun n os => cell_grown HX.out.lt (HX.out.cell 0) n os
  have c1 : ∀ n os, (grow (W0.drewN n) os).cell? ⟨w.heap.size, 1, none⟩ = some (.string s.dn) := fun n os => cell_grown HX.out.lt (HX.out.cell 1) n os
  have c2 : ∀ n os, (grow (W0.drewN n) os).cell? ⟨w.heap.size, 2, none⟩ = some (.int .i64 s.st) := fun n os => cell_grown HX.out.lt (HX.out.cell 2) n os
  have c3 : ∀ n os, (grow (W0.drewN n) os).cell? ⟨w.heap.size, 3, none⟩ = some (.int .i64 s.ph) := fun n os => cell_grown HX.out.lt (HX.out.cell 3) n os
  have c4 : ∀ n os, (grow (W0.drewN n) os).cell? ⟨w.heap.size, 4, none⟩ = some (.int .i64 s.sp) := fun n os => cell_grown HX.out.lt (HX.out.cell 4) n os
  have c5 : ∀ n os, (grow (W0.drewN n) os).cell? ⟨w.heap.size, 5, none⟩ = some (.int .i64 s.tr) := fun n os => cell_grown HX.out.lt (HX.out.cell 5) n os
  have c6 : ∀ n os, (grow (W0.drewN n) os).cell? ⟨w.heap.size, 6, none⟩ = some (.bool s.out) := fun n os => cell_grown HX.out.lt (HX.out.cell 6) n os
  have c7 : ∀ n os, (grow (W0.drewN n) os).cell? ⟨w.heap.size, 7, none⟩ = some (.int .i64 s.at_) := fun n os => cell_grown HX.out.lt (HX.out.cell 7) n os
  have c8 : ∀ n os, (grow (W0.drewN n) os).cell? ⟨w.heap.size, 8, none⟩ = some (.int .i64 s.sk) := fun n os => cell_grown HX.out.lt (HX.out.cell 8) n os
  go_quiet_grown (first
    | (go_at_call 29; with_reducible exact Calls.grown_of (HN0.out _))
    | (go_at_call 28; with_reducible exact Calls.grown_of (HN1.out _))
    | (go_at_call 29; with_reducible exact Calls.grown_of (HN2.out _))
    | (go_at_call 29; with_reducible exact Calls.grown_of (HN3.out _))
    | (go_at_call 29; with_reducible exact Calls.grown_of (HN4.out _))
    | (go_at_call 29; with_reducible exact Calls.grown_of (HN5.out _))
    | (go_at_call 49; with_reducible exact Calls.grown_of (HN6.out _))
    | (go_at_call 29; with_reducible exact Calls.grown_of (HN7.out _))
    | (go_at_call 29; with_reducible exact Calls.grown_of (HN8.out _)))
  go_wp2_with fail
  go_ret
  exact ⟨by rw [← HB.out]; rfl, HM.out.trans (made_grow _ _ _)⟩
end Go.Proofs.Ytihkadbcjeohjaa.Co
