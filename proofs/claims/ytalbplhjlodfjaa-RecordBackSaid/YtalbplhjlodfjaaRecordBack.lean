/-
  The statement RecordBackSaid: for every input the law function RecordBack returns true (records that were put one behind the other are read as they were; cut off anywhere, those that are whole are), and the arguments read afterwards as before.
  Conditions: none.
-/
import Derived.Test.YtalbplhjlodfjaaRecRows
import Derived.Test.YtalbplhjlodfjaaRecBackMath
import Derived.Test.YtalbplhjlodfjaaRecSame
namespace Go.Proofs.Ytalbplhjlodfjaa.recordBack
open Go.ChangeShapes Go.WideShapes Go.ChangeAt Go.RowKit

theorem infoInt : (Try.prog.info? 3).map (fun i => (i.zero, i.size, i.bytes)) = some (some (.int .i64 0), 1, 8) := by kernel_rfl
theorem sizeOfStr : ∀ w, (Go.sizeOf 9).run Try.prog w = .ok 1 w := fun w => by
  obtain ⟨i0, hi0, _, hz1, _⟩ := info_parts infoStr
  simp [Go.sizeOf, typeInfo, hi0, hz1]
abbrev intV (ks : List Nat) : List Value := ks.map fun (k : Nat) => Value.int .i64 (k : Int)
abbrev txtV (ls : List (List UInt8)) : List Value := ls.map fun l => Value.string ⟨l.toArray⟩
/-- where the first loop stands -/
structure BackAt (w : World) (ls : List (List UInt8)) (i : Nat) (v5 v6 v7 : Value) (wr : World) : Prop where
  all : wr.ownsRow w.heap.size 5 1 v5 (catL (ls.take i)).length (cellsB (catL (ls.take i)))
  fin : wr.ownsRow w.heap.size 3 1 v6 i (intV (endsL ls i))
  txt : wr.ownsRow w.heap.size 9 1 v7 i (txtV (ls.take i))
  bel : Below w.heap.size w wr
theorem BackAt.below {w wr w' : World} {ls : List (List UInt8)} {i : Nat} {v5 v6 v7 : Value} (h : BackAt w ls i v5 v6 v7 wr) (hb : Below wr.heap.size wr w') : BackAt w ls i v5 v6 v7 w' :=
  ⟨own_below h.all hb, own_below h.fin hb, own_below h.txt hb, h.bel.trans (hb.mono h.bel.size)⟩
theorem own_next' {B : Nat} {w wr w1 : World} {v : Value} {n : Nat} {e : TypeId} {xs : List Value} (hb : Below B w wr) (hB : B ≤ wr.heap.size) (hown : wr.ownsRow B e 1 v n xs) (hg : wr.grownBy w1 v.ownBlock) : Below B w w1 :=
  hb.grown hg hB (own_ge hown)
theorem keep_row {W W' : World} {B B' : Nat} {e e' : TypeId} {v v' : Value} {k k' : Nat} {xs xs' : List Value} (h : W.ownsRow B e 1 v k xs) (h' : W.ownsRow B' e' 1 v' k' xs') (hne : e ≠ e') (hg : W.grownBy W' v'.ownBlock) : W'.ownsRow B e 1 v k xs :=
  h.kept hg (row_ne h h' hne)

theorem strAt_txt {w : World} {B : Nat} {A : Option Addr} {n c : Nat} {ls : List (List UInt8)} (h : w.ownsRow B 9 1 (.slice A n c) n (txtV ls)) (hn : n = ls.length) : StrAt w A ls := by
  subst hn
  intro i hi
  rcases h.2 with ⟨_, h0⟩ | ⟨g, cap, cur, hv, _⟩
  · omega
  · cases hv
    refine ⟨g, 0, rfl, ?_⟩
    rw [Nat.zero_add, h.cellAt i (by omega), List.getElem?_map, List.getElem?_eq_getElem hi]
    rfl
theorem StrAt.take {w : World} {A : Option Addr} {ls : List (List UInt8)} (h : StrAt w A ls) (j : Nat) : StrAt w A (ls.take j) := by
  intro i hi
  have hi' : i < ls.length := by rw [List.length_take] at hi; omega
  obtain ⟨g, o, e, hc⟩ := h i hi'
  exact ⟨g, o, e, by rw [hc, List.getElem_take]⟩
theorem own_some {w : World} {B : Nat} {e : TypeId} {A : Option Addr} {n c : Nat} {xs : List Value} (h : w.ownsRow B e 1 (.slice A n c) n xs) (hn : 0 < n) : ∃ g, A = some ⟨g, 0, none⟩ := by
  rcases h.2 with ⟨_, h0⟩ | ⟨g, cap, cur, hv, _⟩
  · omega
  · cases hv
    exact ⟨g, rfl⟩
/-- what All answers of bytes whose whole part is known -/
theorem all_of {A : Option Addr} {b : List UInt8} {ls : List (List UInt8)} {n r L k : Nat} {w : World} (c : Nat) (hb : Byt w w.heap.size A b) (hL : b.length = L) (hc : L ≤ c) (hl : L ≤ 1000) (hw : Whole b ls n) (hr : restE b n = r) (hk : ls.length = k) :
    Calls Try.prog 10 #[.slice A L c] w fun e w' => ∃ A' c', e = .returned (.tuple #[.slice A' k c', .int .i64 (n : Int), .int .i64 (r : Int)]) ∧ SlsAt w' A' ls ∧ Below w.heap.size w w' := by
  subst hL hr hk
  refine (all_any A b c w hb hc (by omega)).mono ?_
  rintro e w' ⟨xs, v, rfl, hW, ho, hp, hB⟩
  obtain ⟨h1, h2⟩ := hW.same hw
  obtain ⟨A', c', rfl, _⟩ := own_form ho
  have h3 := slsAt_of ho hp rfl
  have h4 : xs.length = ls.length := by rw [← h1, List.length_map]
  rw [h1] at h3
  exact ⟨A', c', by rw [h2, h4], h3, hB⟩
theorem same_of (A B : Option Addr) (ls : List (List UInt8)) (n c d : Nat) (w : World) (hA : SlsAt w A ls) (hB : StrAt w B ls) (hn : ls.length = n) (h1 : n ≤ 1000) :
    Calls Try.prog 12 #[.slice A n c, .slice B n d] w fun e w' => e = .returned (.bool true) ∧ Below w.heap.size w w' := by
  subst hn
  refine (same_any A B ls c d w hA hB h1).mono ?_
  rintro e w' ⟨he, k, rfl⟩
  obtain ⟨h1, h2, h3, h4, h5⟩ := Below.refl w.heap.size w
  exact ⟨he, h1, h2, h3, h4, h5⟩

set_option maxHeartbeats 8000000 in
set_option maxRecDepth 100000 in
theorem walk (A : Option Addr) (xs : List El) (cp a : Nat) (w : World) (hx : ∀ i (hi : i < xs.length), RowAt w w.heap.size A i xs[i]) (hl : xs.length ≤ 9223372036854775807) (ha : a < 65536) :
    Calls Try.prog 4 #[.slice A xs.length cp, .int .u16 (a : Int)] w fun e w' => e = .returned (.bool true) ∧ Below w.heap.size w w' := by
  obtain ⟨i0, hi0, hz0, hz1, hz2⟩ := info_parts info5
  obtain ⟨j0, hj0, hjz0, hjz1, hjz2⟩ := info_parts infoInt
  obtain ⟨s0, hs0, hsz0, hsz1, hsz2⟩ := info_parts infoStr
  by_cases hs : 12 < xs.length
  · go_enter Try.func4, Try.ntmps4
    go_wp2_with (go_at_call 7; (refine (awake_any _).mono ?_); rintro e W1 ⟨rfl, b1⟩)
    go_ret
    exact ⟨rfl, b1⟩
  · have HX := Lib.hid hx
    obtain ⟨ls, hls⟩ : ∃ ls, ls = xs.map El.l := ⟨_, rfl⟩
    have hll : ls.length = xs.length := by rw [hls, List.length_map]
    have HLS := Lib.hid hls
    have HLL := Lib.hid hll
    clear hx hls hll
    go_enter Try.func4, Try.ntmps4
    go_wp2_with (go_at_call 7; (refine (awake_any _).mono ?_); rintro e W1 ⟨rfl, b1⟩)
    go_loopw [5, 6, 7, 8] (fun v5 v6 v7 p wr => ∃ i : Nat, p = .int .i64 i ∧ i ≤ xs.length ∧ Hid (BackAt w ls i v5 v6 v7 wr) ∧ Hid (∀ l ∈ ls.take i, l.length ≤ 60)) (fun _ _ _ p _ => xs.length - (intOf p).toNat)
    case atStart => exact ⟨0, rfl, by omega, Lib.hid ⟨World.ownsRow_nil _ _ _ _, World.ownsRow_nil _ _ _ _, World.ownsRow_nil _ _ _ _, b1⟩, Lib.hid (by simp)⟩
    case round =>
      obtain ⟨i, rfl, hi, HB, H60⟩ := hrel
      have hcat : (catL (ls.take i)).length ≤ 876 := by
        have h1 := catL_len H60.out
        rw [List.length_take] at h1
        omega
      by_cases hlt : i < xs.length
      · obtain ⟨⟨hxl, hxb⟩, b0, o0, rfl, hb0, hc0⟩ := (HX.out i hlt).below HB.out.bel
        have hxl2 : Hid (ls[i]'(by rw [HLL.out]; exact hlt) = (xs[i]).l) := Lib.hid (by simp [HLS.out])
        have hval : (xs[i]).val = .slice (xs[i]).A (xs[i]).l.length (xs[i]).c := rfl
        rw [hval] at hc0
        clear hval
        obtain ⟨x, hxx⟩ : ∃ x, x = xs[i] := ⟨_, rfl⟩
        have HR := HX.out i hlt
        rw [← hxx] at hxl hxb hc0 hxl2 HR
        have HR := Lib.hid HR
        clear hxx
        by_cases h60 : 60 < x.l.length
        · have hbel := HB.out.bel
          have hd60 : decide ((60 : Int) < (x.l.length : Int)) = true := by simp; omega
          clear h60 hxb
          go_wp2
          go_ret
          exact ⟨rfl, hbel⟩
        · obtain ⟨n, hn⟩ : ∃ n, n = x.l.length := ⟨_, rfl⟩
          have HN := Lib.hid hn
          have hbs := HB.out.bel.size
          have HPU := Lib.hid (put_any x.A x.l x.c wr (hxb.more hbs) (by omega))
          rw [← hn] at hc0 h60 HPU
          have hd60 : decide ((60 : Int) < (n : Int)) = false := by simp; omega
          clear hn hxl
          have HXB := Lib.hid hxb
          clear hxb
          go_wp2_with fail
          refine HPU.out.mono ?_
          rintro e W2 ⟨v2, rfl, hown2, b2⟩
          clear HPU
          obtain ⟨A2, c2, rfl, _⟩ := own_form hown2
          have hc2 : ∀ u, Below W2.heap.size W2 u → u.cell? ⟨b0, o0 + i, none⟩ = some (.slice x.A n x.c) := fun u hu => (hu.cell (p := ⟨b0, o0 + i, none⟩) (by have := b2.size; show b0 < _; omega)).trans ((b2.cell (p := ⟨b0, o0 + i, none⟩) (show b0 < _ by omega)).trans hc0)
          have hp13 : (putL x.l).length = n + 13 := by rw [putL_len, HN.out]
          have hby2 := Byt.own hown2
          have T1 : ∀ u, Below W2.heap.size W2 u → (convert 22 9 (.slice A2 (n + 13) c2)).run Try.prog u = .ok (.string ⟨(putL x.l).toArray⟩) u := fun u hu => by
            have h := Byt.text (P := Try.prog) (hby2.below hu) 22 5 9 Try.underlying22 Try.underlying5 Try.underlying9 c2
            rw [hp13] at h
            exact h
          have T2 : ∀ u, Below W2.heap.size W2 u → (convert 22 9 (.slice x.A n x.c)).run Try.prog u = .ok (.string ⟨x.l.toArray⟩) u := fun u hu => by
            have h := Byt.text (P := Try.prog) ((HXB.out.below (b2.mono hbs)).below (hu.mono (Nat.le_trans hbs b2.size))) 22 5 9 Try.underlying22 Try.underlying5 Try.underlying9 x.c
            rw [← HN.out] at h
            exact h
          have HP : Hid (∀ u, Below W2.heap.size W2 u → Calls Try.prog 14 #[.string ⟨x.l.toArray⟩] u fun e u' => e = .returned (.string ⟨(putL x.l).toArray⟩) ∧ Below W2.heap.size W2 u') := Lib.hid fun u hu => by
            have h := refPut_any (str x.l) u (by show x.l.length ≤ 65536; rw [← HN.out]; omega)
            rw [str_list] at h
            exact h.mono fun e u' ⟨he, hb⟩ => ⟨he, hu.trans (hb.mono hu.size)⟩
          have HS : Hid (∀ u, Below W2.heap.size W2 u → Calls Try.prog 15 #[.int .i64 (n : Int)] u fun e u' => e = .returned (.int .i64 (13 + (n : Int))) ∧ Below W2.heap.size W2 u') := Lib.hid fun u hu => by
            have h := size_any (n : Int) u
            rw [sizeI_nat (show n ≤ 65536 by omega)] at h
            exact h.mono fun e u' ⟨he, hb⟩ => ⟨he, hb ▸ hu⟩
          have HO2 := Lib.hid hown2
          have HB2 := Lib.hid (HB.out.below b2)
          have HP13 := Lib.hid hp13
          have hne : (((n : Int) + 13) != 13 + (n : Int)) = false := by
            rw [Int.add_comm]; simp
          obtain ⟨q, hq⟩ : ∃ q, q = putL x.l := ⟨_, rfl⟩
          rw [← hq] at T1 HP HO2 HP13
          have HQ := Lib.hid hq
          clear hq hown2 hby2 hc0 hp13
          go_wp2_with fail
          go_region_held3 (fun u => Below W2.heap.size W2 u) (first | exact Below.refl _ _ | exact Below.drew (Below.refl _ _) | assumption)
            (first
              | (go_at_call 14; (with_reducible refine (HP.out _ ?_).mono ?_); (first | assumption | exact Below.drew (Below.refl _ _)); rintro e w3 ⟨rfl, hw3⟩)
              | (go_at_call 15; (with_reducible refine (HS.out _ ?_).mono ?_); (first | assumption | exact Below.drew (Below.refl _ _)); rintro e w4 ⟨rfl, hw4⟩))
          have hby4 : Byt w4 W2.heap.size A2 q := by
            have h := HO2.out
            rw [← HP13.out] at h
            exact (Byt.own h).below hw4
          have HB4 := Lib.hid (HB2.out.below hw4)
          have hs4 := HB4.out.bel.size
          have HW4 := Lib.hid hby4
          have T3 : Hid (∀ u, Below w.heap.size w u → (convert 22 9 (.slice x.A n x.c)).run Try.prog u = .ok (.string ⟨x.l.toArray⟩) u ∧ u.cell? ⟨b0, o0 + i, none⟩ = some (.slice x.A n x.c)) := Lib.hid fun u hu => by
            obtain ⟨⟨_, hxb⟩, b0', o0', e0, hb0', hc0⟩ := HR.out.below hu
            injection e0 with e0
            injection e0 with e1 e2
            subst e1 e2
            have h := Byt.text (P := Try.prog) hxb 22 5 9 Try.underlying22 Try.underlying5 Try.underlying9 x.c
            rw [← HN.out] at h
            rw [El.val, ← HN.out] at hc0
            exact ⟨h, hc0⟩
          obtain ⟨N, hN⟩ : ∃ N, N = (catL (ls.take i)).length := ⟨_, rfl⟩
          have HNN := Lib.hid hN
          have hall := HB4.out.all
          rw [← hN] at hall hcat
          have HALL := Lib.hid hall
          have HFIN := Lib.hid HB4.out.fin
          have HTXT := Lib.hid HB4.out.txt
          have HBEL := Lib.hid HB4.out.bel
          have hq13 : q.length ≤ 73 := by rw [HP13.out]; omega
          clear hN hall hby4 T1 T2 hc2 HP HS hw4 hw3 HO2 HB2 HB4 HB b2 hbs hne HXB
          go_wp2_with (first
            | (at_builtin; refine wpList_append_byt _ rfl (.tmp 67) (.tmp 68) _ rfl w.heap.size 5 i0 _ Try.underlying22 hi0 hz0 hz1 hz2 rfl _ N _ rfl HALL.out W2.heap.size _ _ _ q rfl HP13.out.symm HW4.out (by omega) hs4 ?_; intro v5 w5 hown5 hg5 hat5; have HB5 := Lib.hid (own_next' HBEL.out hs4 HALL.out hg5); have HFIN5 := Lib.hid (keep_row HFIN.out HALL.out (by decide) hg5); have HTXT5 := Lib.hid (keep_row HTXT.out HALL.out (by decide) hg5); obtain ⟨A5, c5, rfl, _⟩ := own_form hown5; have HOWN5 := Lib.hid hown5; have hs5 := HB5.out.size; clear hown5 hg5 hat5)
            | (at_builtin; refine wpList_append_own_at _ rfl (.tmp 70) (.tmp 73) _ rfl w.heap.size 3 j0 _ 1 8 Try.underlying39 hj0 hjz0 hjz1 hjz2 rfl (by decide) _ i _ rfl (HFIN5.out.alloc _) ⟨w5.heap.size, 0, none⟩ 1 1 [_] rfl rfl (cell_one_new _ _ _) (by simp [Value.oneCell']) (by unfold maxLen; omega) (by omega) (by simp; omega) ?_; intro v6 w6 hown6 hg6 _ _; have HB6 := Lib.hid (own_next HB5.out hs5 HFIN5.out hg6); have HALL6 := Lib.hid (keep_row (HOWN5.out.alloc _) (HFIN5.out.alloc _) (by decide) hg6); have HTXT6 := Lib.hid (keep_row (HTXT5.out.alloc _) (HFIN5.out.alloc _) (by decide) hg6); have HOWN6 := Lib.hid hown6; have hs6 := HB6.out.size; obtain ⟨t6, k6⟩ := T3.out w6 HB6.out; clear hown6 hg6)
            | (at_builtin; refine wpList_append_own_at _ rfl (.tmp 75) (.tmp 81) _ rfl w.heap.size 9 s0 _ 1 16 Try.underlying33 hs0 hsz0 hsz1 hsz2 rfl (by decide) _ i _ rfl (HTXT6.out.alloc _) ⟨w6.heap.size, 0, none⟩ 1 1 [_] rfl rfl (cell_one_new _ _ _) (by simp [Value.oneCell']) (by unfold maxLen; omega) (by omega) (by simp; omega) ?_; intro v7 w7 hown7 hg7 _ _; have HB7 := Lib.hid (own_next HB6.out hs6 HTXT6.out hg7); have HALL7 := Lib.hid (keep_row (HALL6.out.alloc _) (HTXT6.out.alloc _) (by decide) hg7); have HFIN7 := Lib.hid (keep_row (HOWN6.out.alloc _) (HTXT6.out.alloc _) (by decide) hg7); have HOWN7 := Lib.hid hown7; clear hown7 hg7))
          have hil : i < ls.length := by rw [HLL.out]; exact hlt
          have hcn := Lib.hid (show catL (ls.take (i + 1)) = catL (ls.take i) ++ q by rw [catL_take hil, hxl2.out, HQ.out])
          have htn := Lib.hid (show ls.take (i + 1) = ls.take i ++ [x.l] by rw [List.take_succ_eq_append_getElem hil, hxl2.out])
          have HNX : Hid (BackAt w ls (i + 1) (.slice A5 (N + q.length) c5) v6 v7 w7) := by
            refine Lib.hid ⟨?_, ?_, ?_, HB7.out⟩
            · rw [hcn.out, cellsB_app, List.length_append, ← HNN.out]; exact HALL7.out
            · have h := HFIN7.out
              rw [endsL_succ]
              simp only [intV, List.map_append, List.map_cons, List.map_nil]
              unfold endN
              rw [hcn.out, List.length_append, ← HNN.out]
              simpa using h
            · have h := HOWN7.out
              rw [htn.out]
              simp only [txtV, List.map_append, List.map_cons, List.map_nil]
              exact h
          have H60X : Hid (∀ l ∈ ls.take (i + 1), l.length ≤ 60) := by
            refine Lib.hid fun l hl => ?_
            rw [htn.out] at hl
            rcases List.mem_append.1 hl with h | h
            · exact H60.out l h
            · rw [List.mem_singleton.1 h, ← HN.out]; omega
          clear hil
          go_roundw
          case rel => exact ⟨i + 1, by go_num, by omega, HNX, H60X⟩
          case measure => simp [intOf]; omega
      · obtain rfl : i = xs.length := by omega
        have htk : ls.take xs.length = ls := List.take_of_length_le (by rw [HLL.out]; exact Nat.le_refl _)
        have hall := HB.out.all
        have hfin := HB.out.fin
        have htxt := HB.out.txt
        have hbel := HB.out.bel
        have h60 := H60.out
        rw [htk] at hall htxt h60 hcat
        have hbs := hbel.size
        clear htk hlt HB H60 HX b1
        obtain ⟨A5, c5, rfl, hc5⟩ := own_form hall
        obtain ⟨A6, c6, rfl, hc6⟩ := own_form hfin
        obtain ⟨A7, c7, rfl, hc7⟩ := own_form htxt
        obtain ⟨L, hL⟩ : ∃ L, L = (catL ls).length := ⟨_, rfl⟩
        have h65 : Hid (∀ l ∈ ls, l.length ≤ 65536) := Lib.hid fun l hl => Nat.le_trans (h60 l hl) (by omega)
        have HAL := Lib.hid (all_of (k := xs.length) c5 (Byt.own hall) hL.symm (by rw [hL]; exact hc5) (by rw [hL]; omega) (whole_cat h65.out) (restE_end _ rfl) HLL.out)
        rw [← hL] at hall hc5 hcat HAL ⊢
        have HL := Lib.hid hL
        have HALL := Lib.hid hall
        have HFIN := Lib.hid hfin
        have HTXT := Lib.hid htxt
        clear hL hall hfin htxt h60
        obtain ⟨k, hk⟩ : ∃ k : Nat, k = a % (L + 1) := ⟨_, rfl⟩
        have hk1 : (a : Int) % ((L : Int) + 1) = (k : Int) := by rw [hk, Int.natCast_emod]; rfl
        have hk2 : k ≤ L := by have := Nat.mod_lt a (show 0 < L + 1 by omega); omega
        clear hk
        go_wp2_with fail
        refine HAL.out.mono ?_
        rintro e W2 ⟨A4, c4, rfl, hs4, b2⟩
        have HSM := Lib.hid (same_of A4 A7 ls xs.length c4 c7 W2 hs4 (strAt_txt (own_below HTXT.out b2) HLL.out.symm) HLL.out (by omega))
        have B2 := hbel.trans (b2.mono hbs)
        clear HAL hs4
        go_wp2_with fail
        refine HSM.out.mono ?_
        rintro e W3 ⟨rfl, b3⟩
        have B3 := B2.trans (b3.mono B2.size)
        have b23 := b2.trans (b3.mono b2.size)
        clear HSM b2 b3 B2 hbel
        go_wp2_with fail
        go_loop [15, 16, 17] (fun nn at' p => ∃ j : Nat, p = .int .i64 j ∧ nn = .int .i64 j ∧ at' = .int .i64 ((catL (ls.take j)).length : Nat) ∧ j ≤ xs.length ∧ (catL (ls.take j)).length ≤ k) (fun _ _ p => xs.length - (intOf p).toNat)
        case atStart => exact ⟨0, rfl, rfl, rfl, by omega, by simp [catL]⟩
        case round =>
          obtain ⟨j, rfl, rfl, rfl, hj, hmk⟩ := hrel
          by_cases hjn : j < xs.length
          · have hfin3 := own_below HFIN.out b23
            obtain ⟨g6, rfl⟩ := own_some HFIN.out (by omega)
            have hcell : W3.cell? ⟨g6, j, none⟩ = some (.int .i64 (endN ls j : Nat)) := by
              rw [hfin3.cellAt j (by omega), List.getElem?_map, endsL_at hjn]
              rfl
            clear hfin3
            by_cases hen : endN ls j ≤ k
            · have HE := Lib.hid (show endN ls j = (catL (ls.take (j + 1))).length from rfl)
              generalize endN ls j = en at *
              generalize (catL (ls.take j)).length = m at *
              go_wp2
              go_round
              case rel => exact ⟨j + 1, by go_num, by go_num, by rw [HE.out], by omega, by rw [← HE.out]; exact hen⟩
              case measure => simp [intOf]; omega
            · have h2 : j = ls.length ∨ k < (catL (ls.take (j + 1))).length := .inr (by unfold endN at hen; omega)
              have hdn : decide (endN ls j ≤ k) = false := by simpa using hen
              generalize endN ls j = en at *
              have hmj : (ls.take j).length = j := by rw [List.length_take, HLL.out]; omega
              have hcut := whole_cut h65.out (by rw [HLL.out]; exact hj) hmk (by rw [← HL.out]; exact hk2) h2
              have hck := run_cut_to (P := Try.prog) W3 22 5 Try.underlying22 sizeOf5 A5 L c5 (k : Int) (by omega) (by omega)
              have hcj := fun u => run_cut_to (P := Try.prog) u 33 9 Try.underlying33 sizeOfStr A7 xs.length c7 (j : Int) (by omega) (by omega)
              simp only [Int.toNat_natCast] at hck hcj
              have hbt := (Byt.own (own_below HALL.out b23)).take k
              have hlk : ((catL ls).take k).length = k := by rw [List.length_take, ← HL.out]; omega
              obtain ⟨m, hm⟩ : ∃ m, m = (catL (ls.take j)).length := ⟨_, rfl⟩
              rw [← hm] at hcut hmk ⊢
              by_cases hmk2 : m = k
              · have HA2 := Lib.hid (all_of (r := 0) (L := k) (k := j) c5 hbt hlk (by omega) (by omega) hcut.1 (by rw [hcut.2, if_pos hmk2]) hmj)
                have hbe : ((m : Int) == (k : Int)) = true := by rw [hmk2]; simp
                have HMJ := Lib.hid hmj
                clear hmj hcut hbt hlk hm hmk2 h2
                go_wp2_with fail
                refine HA2.out.mono ?_
                rintro e W5 ⟨A8, c8, rfl, hs8, b5⟩
                have HS2 := Lib.hid (same_of A8 A7 (ls.take j) j c8 c7 W5 hs8 (StrAt.take (strAt_txt (own_below HTXT.out (b23.trans (b5.mono b23.size))) HLL.out.symm) j) HMJ.out (by omega))
                have B5 := B3.trans (b5.mono B3.size)
                clear hs8 HA2 b5
                go_wp2_with fail
                refine HS2.out.mono ?_
                rintro e W6 ⟨rfl, b6⟩
                have B6 := B5.trans (b6.mono B5.size)
                clear HS2 b6
                go_wp2
                go_ret
                exact ⟨rfl, B6⟩
              · have HA2 := Lib.hid (all_of (r := 2) (L := k) (k := j) c5 hbt hlk (by omega) (by omega) hcut.1 (by rw [hcut.2, if_neg hmk2]) hmj)
                have hbe : ((m : Int) == (k : Int)) = false := by simp; omega
                have HMJ := Lib.hid hmj
                clear hmj hcut hbt hlk hm hmk2 h2
                go_wp2_with fail
                refine HA2.out.mono ?_
                rintro e W5 ⟨A8, c8, rfl, hs8, b5⟩
                have HS2 := Lib.hid (same_of A8 A7 (ls.take j) j c8 c7 W5 hs8 (StrAt.take (strAt_txt (own_below HTXT.out (b23.trans (b5.mono b23.size))) HLL.out.symm) j) HMJ.out (by omega))
                have B5 := B3.trans (b5.mono B3.size)
                clear hs8 HA2 b5
                go_wp2_with fail
                refine HS2.out.mono ?_
                rintro e W6 ⟨rfl, b6⟩
                have B6 := B5.trans (b6.mono B5.size)
                clear HS2 b6
                go_wp2
                go_ret
                exact ⟨rfl, B6⟩
          · have h2 : j = ls.length ∨ k < (catL (ls.take (j + 1))).length := .inl (by rw [HLL.out]; omega)
            have hmj : (ls.take j).length = j := by rw [List.length_take, HLL.out]; omega
            have hcut := whole_cut h65.out (by rw [HLL.out]; exact hj) hmk (by rw [← HL.out]; exact hk2) h2
            have hck := run_cut_to (P := Try.prog) W3 22 5 Try.underlying22 sizeOf5 A5 L c5 (k : Int) (by omega) (by omega)
            have hcj := fun u => run_cut_to (P := Try.prog) u 33 9 Try.underlying33 sizeOfStr A7 xs.length c7 (j : Int) (by omega) (by omega)
            simp only [Int.toNat_natCast] at hck hcj
            have hbt := (Byt.own (own_below HALL.out b23)).take k
            have hlk : ((catL ls).take k).length = k := by rw [List.length_take, ← HL.out]; omega
            obtain ⟨m, hm⟩ : ∃ m, m = (catL (ls.take j)).length := ⟨_, rfl⟩
            rw [← hm] at hcut hmk ⊢
            by_cases hmk2 : m = k
            · have HA2 := Lib.hid (all_of (r := 0) (L := k) (k := j) c5 hbt hlk (by omega) (by omega) hcut.1 (by rw [hcut.2, if_pos hmk2]) hmj)
              have hbe : ((m : Int) == (k : Int)) = true := by rw [hmk2]; simp
              have HMJ := Lib.hid hmj
              clear hmj hcut hbt hlk hm hmk2 h2
              go_wp2_with fail
              refine HA2.out.mono ?_
              rintro e W5 ⟨A8, c8, rfl, hs8, b5⟩
              have HS2 := Lib.hid (same_of A8 A7 (ls.take j) j c8 c7 W5 hs8 (StrAt.take (strAt_txt (own_below HTXT.out (b23.trans (b5.mono b23.size))) HLL.out.symm) j) HMJ.out (by omega))
              have B5 := B3.trans (b5.mono B3.size)
              clear hs8 HA2 b5
              go_wp2_with fail
              refine HS2.out.mono ?_
              rintro e W6 ⟨rfl, b6⟩
              have B6 := B5.trans (b6.mono B5.size)
              clear HS2 b6
              go_wp2
              go_ret
              exact ⟨rfl, B6⟩
            · have HA2 := Lib.hid (all_of (r := 2) (L := k) (k := j) c5 hbt hlk (by omega) (by omega) hcut.1 (by rw [hcut.2, if_neg hmk2]) hmj)
              have hbe : ((m : Int) == (k : Int)) = false := by simp; omega
              have HMJ := Lib.hid hmj
              clear hmj hcut hbt hlk hm hmk2 h2
              go_wp2_with fail
              refine HA2.out.mono ?_
              rintro e W5 ⟨A8, c8, rfl, hs8, b5⟩
              have HS2 := Lib.hid (same_of A8 A7 (ls.take j) j c8 c7 W5 hs8 (StrAt.take (strAt_txt (own_below HTXT.out (b23.trans (b5.mono b23.size))) HLL.out.symm) j) HMJ.out (by omega))
              have B5 := B3.trans (b5.mono B3.size)
              clear hs8 HA2 b5
              go_wp2_with fail
              refine HS2.out.mono ?_
              rintro e W6 ⟨rfl, b6⟩
              have B6 := B5.trans (b6.mono B5.size)
              clear HS2 b6
              go_wp2
              go_ret
              exact ⟨rfl, B6⟩

theorem word_wf {x : Int} (h : (Lit.int .u16 x).wf = true) : 0 ≤ x ∧ x < 65536 := by
  have h1 : IntKind.u16.min = 0 := rfl
  have h2 : IntKind.u16.max = 65535 := rfl
  simp only [Lit.wf, Bool.and_eq_true, decide_eq_true_eq] at h
  omega

set_option maxRecDepth 100000 in
theorem lifted (os : Os) (started : os.Started) (H : Type) (enc : TypeId × Value → H) :
    ReturnsInHanded {} Try.checked os 4 .any (Rows.recordBackSpec.pre6 enc Try.prog Try.f4 Rows.recordBackRow.domain false) (Rows.recordBackSpec.post enc Try.prog Try.f4 false true false false) := by
  refine returnsInHanded_of_change_sized (C := Try.checked) own started (by kernel_rfl) Try.func4
    (ChangeSpec.witness6 (enc := enc) (C := Try.checked) false ⟨#[], #[.slice none 0 0, .int .u16 0], []⟩ 8 (by kernel_rfl) (by kernel_rfl) (by kernel_rfl) (by kernel_rfl)) ?_
  intro W base args ds gs before hval0 hW _ _ _
  have hval : ∀ (j : Nat) t v, Try.f4.params[j]? = some t → args[j]? = some v → Value.okWide Try.prog W .any base t v := hval0
  have hW' := hW
  obtain ⟨p, q, hA0, hV, rfl, _, _⟩ := hW
  have hA : DataW.TrodAll enc Try.prog W 0 (fun _ => true) true Try.f4.params.toList args.toList ds p := hA0
  rw [Try.params4] at hA hval
  obtain ⟨rfl, rfl⟩ := trodVars_none hV
  obtain ⟨v0, vs0, d0, ds0, p0, q0, hargs, rfl, rfl, h0, r0⟩ := trodAll_cons hA
  obtain ⟨v1, vs1, d1, ds1, p1, q1, rfl, rfl, rfl, h1, r1⟩ := trodAll_cons r0
  obtain ⟨rfl, rfl, rfl⟩ := trodAll_nil r1
  obtain rfl : args = #[v0, v1] := by cases args; simp_all
  obtain ⟨a0, len, cap, rfl⟩ := okWide_slice Try.underlying30 (hval 0 30 v0 rfl rfl)
  obtain ⟨a1, rfl, rfl, rfl, w1⟩ := open_int Try.underlying38 (hval 1 38 v1 rfl rfl) h1
  clear hA0 hval0
  simp only [List.append_nil] at hW'
  have hlt : ∀ x ∈ p0, x.block < W.heap.size := fun x hx => by simpa using hW'.lt x (by simp [hx])
  obtain ⟨xs, rfl, hm, hx⟩ := arg_rows h0
  have h16 := word_wf w1
  obtain ⟨n1, rfl⟩ : ∃ n : Nat, a1 = (n : Int) := ⟨a1.toNat, by omega⟩
  refine (walk a0 xs cap n1 W hx hm (by omega)).mono fun e W' ⟨he, bel⟩ => ?_
  subst he
  exact ⟨_, rfl, _, _, _, [], _, [], hW', trodAll_mk1 (shut_bool Try.underlying4 _), (trodAll_cons_mk (Below.trod laidOut (by kernel_rfl) (of_decide_eq_true (by kernel_rfl)) h0 bel hlt) (trodAll_cons_mk (shut_int Try.underlying38 w1) trodAll_mk0)), rfl, bel.frame _, fun h => by cases h⟩

/-- the statement -/
theorem proved : Rows.RecordBackSaid :=
  OpenClaim.holds_of_wide 4 Try.f4 rfl rfl rfl rfl rfl rfl rfl ⟨rfl, rfl, rfl, rfl, rfl⟩ rfl rfl rfl rfl rfl (by kernel_rfl) Try.func4 (by kernel_rfl)
    (of_decide_eq_true (by kernel_rfl)) (by unfold Func.isWrapper; first | (rw [if_pos (by decide +kernel)]; kernel_rfl) | (rw [if_neg (by decide +kernel)]; exact ⟨rfl, rfl⟩))
    (fun os started H enc _ => lifted os started H enc)
#print axioms proved
end Go.Proofs.Ytalbplhjlodfjaa.recordBack
