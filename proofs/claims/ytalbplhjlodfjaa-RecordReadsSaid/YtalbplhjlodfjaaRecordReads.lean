/-
  The statement RecordReadsSaid: for every input the law function RecordReads returns true (the record at any place of any bytes, and all records of them, are as the document says), and the arguments read afterwards as before.
  Conditions: none.
-/
import Derived.Test.YtalbplhjlodfjaaRecArg
import Derived.Test.YtalbplhjlodfjaaRecSame
namespace Go.Proofs.Ytalbplhjlodfjaa.recordReads
open Go.ChangeShapes Go.WideShapes Go.ChangeAt Go.RowKit

theorem Boxed.lt' {w : World} {g : Nat} {o : Obj} (h : w.heap[g]? = some o) : g < w.heap.size := (Array.getElem?_eq_some_iff.1 h).1
theorem below_drewN' {B : Nat} {w w' : World} (h : Below B w w') (k : Nat) : Below B w (w'.drewN k) := by
  obtain ⟨h1, h2, h3, h4, h5⟩ := h
  exact ⟨h1, h2, h3, h4, h5⟩

set_option maxHeartbeats 4000000 in
set_option maxRecDepth 100000 in
theorem walk (A : Option Addr) (l : List UInt8) (cp : Nat) (i : Int) (w : World) (hb : Byt w w.heap.size A l) (hcp : l.length ≤ cp) (hl : l.length ≤ 9223372036854775807) (hi1 : -9223372036854775808 ≤ i) (hi2 : i ≤ 9223372036854775807) :
    Calls Try.prog 3 #[.slice A l.length cp, .int .i64 i] w fun e w' => e = .returned (.bool true) ∧ Below w.heap.size w w' := by
  have hzg := (zero_of_info infoGot).1
  unfold gotV at hzg
  by_cases hs : 300 < l.length
  · go_enter Try.func3, Try.ntmps3
    go_wp2_with (go_at_call 7; (refine (awake_any _).mono ?_); rintro e W1 ⟨rfl, b1⟩)
    go_ret
    exact ⟨rfl, b1⟩
  · by_cases hin : 0 ≤ i ∧ i ≤ l.length
    · obtain ⟨k, rfl⟩ : ∃ k : Nat, i = (k : Int) := ⟨i.toNat, by omega⟩
      have hk : k ≤ l.length := by omega
      clear hin hi1 hi2
      go_enter Try.func3, Try.ntmps3
      go_wp2_with fail
      refine (awake_any _).mono ?_
      rintro e W1 ⟨rfl, b1⟩
      go_wp2_with fail
      refine (get_any A l cp k W1 ((hb.below b1).more b1.size) hk hcp (by omega)).mono ?_
      rintro e W2 ⟨v2, rfl, hown2, b2⟩
      obtain ⟨A1, c1, rfl, _⟩ := own_form hown2
      have B2 := b1.trans (b2.mono b1.size)
      have cut := fun u => run_cut_from (P := Try.prog) u 22 5 Try.underlying22 sizeOf5 A l.length cp (k : Int) (by omega) (by omega)
      simp only [Int.toNat_natCast] at cut
      have hbk := hb.drop (n := k) hcp
      generalize (if cp = k then A else A.map (·.add k)) = A' at cut hbk
      have hm : (l.drop k).length = l.length - k := List.length_drop
      rw [← hm] at cut
      have hsm : (l.drop k).length ≤ 300 := by omega
      generalize l.drop k = m at *
      obtain ⟨pm, hpm⟩ : ∃ pm, pm = getP m := ⟨_, rfl⟩
      obtain ⟨N, hN⟩ : ∃ N, N = getN m := ⟨_, rfl⟩
      obtain ⟨E, hE⟩ : ∃ E, E = getE m := ⟨_, rfl⟩
      have HPY2 := Lib.hid (Byt.own hown2)
      have HRG := fun W => refGet_any (str m) W (by have : (str m).size = m.length := rfl; omega)
      unfold RefGot gotV str at HRG
      rw [← hpm] at hown2 HPY2 ⊢
      simp only [← hpm, ← hN, ← hE] at HRG
      rw [← hN, ← hE]
      clear hpm hN hE hm hown2
      have ht2 := fun (u : World) (hu : Below w.heap.size w u) => Byt.text (P := Try.prog) (hbk.below hu) 22 5 9 Try.underlying22 Try.underlying5 Try.underlying9 (cp - k)
      have ht3 := ht2 (W2.alloc (.cells #[.string ⟨#[]⟩, .int .i64 0, .int .i64 1] 28)) (B2.alloc B2.size _)
      have HRG2 := Lib.hid (HRG (W2.alloc (.cells #[.string ⟨#[]⟩, .int .i64 0, .int .i64 1] 28)))
      clear HRG ht2
      generalize cp - k = ck at *
      go_wp2_with fail
      refine HRG2.out.mono ?_
      rintro e W3' ⟨p', rfl, hp', b3⟩
      obtain rfl := bytes_ext hp'
      have hbx0 : W3'.heap[W2.heap.size]? = some (.cells #[.string ⟨#[]⟩, .int .i64 0, .int .i64 1] 28 (0, 0)) := (b3.block _ (by simp)).trans (heap_alloc_last _ _)
      have B3' : Below w.heap.size w W3' := (B2.alloc B2.size _).trans (b3.mono (by have := B2.size; simp; omega))
      have B3'' : Below W2.heap.size W2 W3' := ((Below.refl _ W2).alloc (Nat.le_refl _) _).trans (b3.mono (by simp))
      clear ht3 HRG2 hp' b3 cut hbk
      go_wp2_with (refine wpList_store_row rfl 28 (.tmp 8) (.tmp 40) rfl W2.heap.size 28 #[.string ⟨#[]⟩, .int .i64 0, .int .i64 1] #[.string ⟨pm.toArray⟩, .int .i64 (N : Int), .int .i64 (E : Int)] rfl rfl hbx0 sizeGot rfl (by simp [Value.oneCell']) ?_)
      have hbx := setRow_heap _ _ _ #[.string ⟨pm.toArray⟩, .int .i64 (N : Int), .int .i64 (E : Int)] _ _ hbx0
      have B3 := below_putRow B3' B2.size #[.string ⟨pm.toArray⟩, .int .i64 (N : Int), .int .i64 (E : Int)]
      have hpy := HPY2.out.below (below_putRow B3'' (Nat.le_refl _) #[.string ⟨pm.toArray⟩, .int .i64 (N : Int), .int .i64 (E : Int)])
      have hsz3 : W2.heap.size < (W3'.setRow W2.heap.size #[.string ⟨pm.toArray⟩, .int .i64 (N : Int), .int .i64 (E : Int)]).heap.size := Boxed.lt' hbx
      generalize W3'.setRow W2.heap.size #[.string ⟨pm.toArray⟩, .int .i64 (N : Int), .int .i64 (E : Int)] = W3 at *
      clear hbx0 B3' B3'' B2 HPY2 b2
      generalize W2.heap.size = g0 at *
      have hg3 : g0 < W3.heap.size := Boxed.lt' hbx
      have hby3 := (hb.below B3).more B3.size
      have HAL := Lib.hid (all_any A l cp W3 hby3 hcp (by omega))
      have HBX := Lib.hid hbx
      have HPY := Lib.hid hpy
      clear hbx hpy hby3
      refine HAL.out.mono ?_
      rintro e W4 ⟨xs, v4, rfl, hw4, ho4, hp4, b4⟩
      have B4 := B3.trans (b4.mono B3.size)
      obtain ⟨A4, c4, rfl, hc4⟩ := own_form ho4
      have ht4 := Byt.text (P := Try.prog) (hb.below B4) 22 5 9 Try.underlying22 Try.underlying5 Try.underlying9 cp
      have hz4 : (str l).size ≤ 1000 := by have : (str l).size = l.length := rfl; omega
      have HRA := Lib.hid (refAll_any (str l) W4 hz4)
      rw [str_list] at HRA
      have HW4 := Lib.hid hw4
      have HO4 := Lib.hid ho4
      have HP4 := Lib.hid hp4
      have HB4 := Lib.hid b4
      clear HAL hw4 ho4 hp4 b4
      obtain ⟨F, hF⟩ : ∃ F, F = finOf xs := ⟨_, rfl⟩
      obtain ⟨R, hR⟩ : ∃ R, R = restE l F := ⟨_, rfl⟩
      rw [← hF, ← hR]
      have HF := Lib.hid hF
      have HR := Lib.hid hR
      clear hF hR
      unfold str at HRA
      go_wp2_with fail
      refine HRA.out.mono ?_
      rintro e W5 ⟨ps, v5, n5, rfl, hw5, ho5, b5⟩
      obtain ⟨hls, hfn⟩ := HW4.out.same hw5
      rw [← hfn, ← HF.out, ← HR.out]
      obtain ⟨A5, c5, rfl, hc5⟩ := own_form ho5
      have B5 := B4.trans (b5.mono B4.size)
      have b45 := HB4.out.trans (b5.mono HB4.out.size)
      have hlx : (xs.map El.l).length = xs.length := List.length_map _
      have hlp : ps.length = xs.length := by have h := congrArg List.length hls; simpa using h.symm
      have hsl : SlsAt W5 A4 (xs.map El.l) := slsAt_of (B := W3.heap.size) (B' := W3.heap.size) (n := xs.length) (c := c4) (own_below HO4.out b5) (fun x hx => own_below (HP4.out x hx) b5) rfl
      have hst : StrAt W5 A5 (xs.map El.l) := by rw [hls]; exact strAt_of ho5 rfl
      have hcnt := HW4.out.1.count
      have hle := HW4.out.1.le
      rw [List.length_map] at hcnt
      have HSM := Lib.hid (same_any A4 A5 (xs.map El.l) c4 c5 W5 hsl hst (by rw [hlx]; omega))
      rw [hlx] at HSM
      rw [hlp]
      have hbx5 : W5.heap[g0]? = some (.cells #[.string ⟨pm.toArray⟩, .int .i64 (N : Int), .int .i64 (E : Int)] 28 (0, 0)) := (b45.block _ (Boxed.lt' HBX.out)).trans HBX.out
      have hg50 : W5.cell? ⟨g0, 0, none⟩ = some (.string ⟨pm.toArray⟩) := by rw [cell_of_row _ _ _ _ _ _ hbx5]; rfl
      have hg51 : W5.cell? ⟨g0, 1, none⟩ = some (.int .i64 (N : Int)) := by rw [cell_of_row _ _ _ _ _ _ hbx5]; rfl
      have hg52 : W5.cell? ⟨g0, 2, none⟩ = some (.int .i64 (E : Int)) := by rw [cell_of_row _ _ _ _ _ _ hbx5]; rfl
      have ht5 := Byt.text (P := Try.prog) ((HPY.out.more (Nat.le_of_lt hg3)).below b45) 22 5 9 Try.underlying22 Try.underlying5 Try.underlying9 c1
      clear ht4 HRA HW4 HO4 HP4 HB4 HPY HBX HF HR hls hfn hlx hlp hsl hst hcnt hle hbx5 hw5 ho5 b5 b45 hc4 hc5 hg3
      generalize xs.length = nx at *
      go_wp2_with (go_at_call 12; (with_reducible refine HSM.out.mono ?_); rintro e W6 ⟨rfl, k6, hw6⟩; have B6 : Below w.heap.size w W6 := (by rw [hw6]; exact below_drewN' B5 k6); clear hw6)
      go_ret
      exact ⟨rfl, B6⟩
    · have hgd : decide (0 ≤ i) = false ∨ (decide (0 ≤ i) = true ∧ decide (i ≤ (l.length : Int)) = false) := by
        by_cases h0 : 0 ≤ i
        · exact .inr ⟨by simpa using h0, by simp; omega⟩
        · exact .inl (by simpa using h0)
      have HGA := fun W => get_arg A l.length cp i W (by omega)
      have HGA := Lib.hid HGA
      clear hin
      rcases hgd with hd | ⟨hd, hd2⟩
      all_goals
        go_enter Try.func3, Try.ntmps3
        go_wp2_with fail
        refine (awake_any _).mono ?_
        rintro e W1 ⟨rfl, b1⟩
        go_wp2_with fail
        refine (HGA.out W1).mono ?_
        rintro e W2 ⟨rfl, rfl⟩
        go_wp2_with fail
        have hbx : (W1.alloc (.cells #[.string ⟨#[]⟩, .int .i64 0, .int .i64 1] 28)).heap[W1.heap.size]? = some (.cells #[.string ⟨([] : List UInt8).toArray⟩, .int .i64 ((0 : Nat) : Int), .int .i64 ((1 : Nat) : Int)] 28 (0, 0)) := heap_alloc_last _ _
        have B3 := b1.alloc b1.size (.cells #[.string ⟨#[]⟩, .int .i64 0, .int .i64 1] 28)
        have hpy : Byt (W1.alloc (.cells #[.string ⟨#[]⟩, .int .i64 0, .int .i64 1] 28)) W1.heap.size none [] := Byt.none _ _ _
        generalize W1.alloc (.cells #[.string ⟨#[]⟩, .int .i64 0, .int .i64 1] 28) = W3 at *
        generalize W1.heap.size = g0 at *
        have hg3 : g0 < W3.heap.size := Boxed.lt' hbx
        have hby3 := (hb.below B3).more B3.size
        have HAL := Lib.hid (all_any A l cp W3 hby3 hcp (by omega))
        have HBX := Lib.hid hbx
        have HPY := Lib.hid hpy
        clear hbx hpy hby3
        refine HAL.out.mono ?_
        rintro e W4 ⟨xs, v4, rfl, hw4, ho4, hp4, b4⟩
        have B4 := B3.trans (b4.mono B3.size)
        obtain ⟨A4, c4, rfl, hc4⟩ := own_form ho4
        have ht4 := Byt.text (P := Try.prog) (hb.below B4) 22 5 9 Try.underlying22 Try.underlying5 Try.underlying9 cp
        have hz4 : (str l).size ≤ 1000 := by have : (str l).size = l.length := rfl; omega
        have HRA := Lib.hid (refAll_any (str l) W4 hz4)
        rw [str_list] at HRA
        have HW4 := Lib.hid hw4
        have HO4 := Lib.hid ho4
        have HP4 := Lib.hid hp4
        have HB4 := Lib.hid b4
        clear HAL hw4 ho4 hp4 b4
        obtain ⟨F, hF⟩ : ∃ F, F = finOf xs := ⟨_, rfl⟩
        obtain ⟨R, hR⟩ : ∃ R, R = restE l F := ⟨_, rfl⟩
        rw [← hF, ← hR]
        have HF := Lib.hid hF
        have HR := Lib.hid hR
        clear hF hR
        unfold str at HRA
        go_wp2_with fail
        refine HRA.out.mono ?_
        rintro e W5 ⟨ps, v5, n5, rfl, hw5, ho5, b5⟩
        obtain ⟨hls, hfn⟩ := HW4.out.same hw5
        rw [← hfn, ← HF.out, ← HR.out]
        obtain ⟨A5, c5, rfl, hc5⟩ := own_form ho5
        have B5 := B4.trans (b5.mono B4.size)
        have b45 := HB4.out.trans (b5.mono HB4.out.size)
        have hlx : (xs.map El.l).length = xs.length := List.length_map _
        have hlp : ps.length = xs.length := by have h := congrArg List.length hls; simpa using h.symm
        have hsl : SlsAt W5 A4 (xs.map El.l) := slsAt_of (B := W3.heap.size) (B' := W3.heap.size) (n := xs.length) (c := c4) (own_below HO4.out b5) (fun x hx => own_below (HP4.out x hx) b5) rfl
        have hst : StrAt W5 A5 (xs.map El.l) := by rw [hls]; exact strAt_of ho5 rfl
        have hcnt := HW4.out.1.count
        have hle := HW4.out.1.le
        rw [List.length_map] at hcnt
        have HSM := Lib.hid (same_any A4 A5 (xs.map El.l) c4 c5 W5 hsl hst (by rw [hlx]; omega))
        rw [hlx] at HSM
        rw [hlp]
        have hbx5 : W5.heap[g0]? = some (.cells #[.string ⟨#[]⟩, .int .i64 0, .int .i64 1] 28 (0, 0)) := (b45.block _ (Boxed.lt' HBX.out)).trans HBX.out
        have hg50 : W5.cell? ⟨g0, 0, none⟩ = some (.string ⟨#[]⟩) := by rw [cell_of_row _ _ _ _ _ _ hbx5]; rfl
        have hg51 : W5.cell? ⟨g0, 1, none⟩ = some (.int .i64 0) := by rw [cell_of_row _ _ _ _ _ _ hbx5]; rfl
        have hg52 : W5.cell? ⟨g0, 2, none⟩ = some (.int .i64 1) := by rw [cell_of_row _ _ _ _ _ _ hbx5]; rfl
        have ht5 := Byt.text (P := Try.prog) ((HPY.out.more (Nat.le_of_lt hg3)).below b45) 22 5 9 Try.underlying22 Try.underlying5 Try.underlying9 0
        replace ht5 : (convert 22 9 (.slice none 0 0)).run Try.prog W5 = .ok (.string ⟨#[]⟩) W5 := ht5
        clear ht4 HRA HW4 HO4 HP4 HB4 HPY HBX HF HR hls hfn hlx hlp hsl hst hcnt hle hbx5 hw5 ho5 b5 b45 hc4 hc5 hg3
        generalize xs.length = nx at *
        go_wp2_with (go_at_call 12; (with_reducible refine HSM.out.mono ?_); rintro e W6 ⟨rfl, k6, hw6⟩; have B6 : Below w.heap.size w W6 := (by rw [hw6]; exact below_drewN' B5 k6); clear hw6)
        go_ret
        exact ⟨rfl, B6⟩

set_option maxRecDepth 100000 in
theorem lifted (os : Os) (started : os.Started) (H : Type) (enc : TypeId × Value → H) :
    ReturnsInHanded {} Try.checked os 3 .any (Rows.recordReadsSpec.pre6 enc Try.prog Try.f3 Rows.recordReadsRow.domain false) (Rows.recordReadsSpec.post enc Try.prog Try.f3 false true false false) := by
  refine returnsInHanded_of_change_sized (C := Try.checked) own started (by kernel_rfl) Try.func3
    (ChangeSpec.witness6 (enc := enc) (C := Try.checked) false ⟨#[], #[.slice none 0 0, .int .i64 0], []⟩ 8 (by kernel_rfl) (by kernel_rfl) (by kernel_rfl) (by kernel_rfl)) ?_
  intro W base args ds gs before hval0 hW _ _ _
  have hval : ∀ (j : Nat) t v, Try.f3.params[j]? = some t → args[j]? = some v → Value.okWide Try.prog W .any base t v := hval0
  have hW' := hW
  obtain ⟨p, q, hA0, hV, rfl, _, _⟩ := hW
  have hA : DataW.TrodAll enc Try.prog W 0 (fun _ => true) true Try.f3.params.toList args.toList ds p := hA0
  rw [Try.params3] at hA hval
  obtain ⟨rfl, rfl⟩ := trodVars_none hV
  obtain ⟨v0, vs0, d0, ds0, p0, q0, hargs, rfl, rfl, h0, r0⟩ := trodAll_cons hA
  obtain ⟨v1, vs1, d1, ds1, p1, q1, rfl, rfl, rfl, h1, r1⟩ := trodAll_cons r0
  obtain ⟨rfl, rfl, rfl⟩ := trodAll_nil r1
  obtain rfl : args = #[v0, v1] := by cases args; simp_all
  obtain ⟨a0, len, cap, rfl⟩ := okWide_slice Try.underlying22 (hval 0 22 v0 rfl rfl)
  obtain ⟨a1, rfl, rfl, rfl, w1⟩ := open_int Try.underlying3 (hval 1 3 v1 rfl rfl) h1
  clear hA0 hval0
  simp only [List.append_nil] at hW'
  have hlt : ∀ x ∈ p0, x.block < W.heap.size := fun x hx => by simpa using hW'.lt x (by simp [hx])
  obtain ⟨l, rfl, hc, hm, hb⟩ := arg_bytes h0
  have h64 : -9223372036854775808 ≤ a1 ∧ a1 ≤ 9223372036854775807 := by
    have h1 : IntKind.i64.min = -9223372036854775808 := rfl
    have h2 : IntKind.i64.max = 9223372036854775807 := rfl
    have w2 := w1
    simp only [Lit.wf, Bool.and_eq_true, decide_eq_true_eq] at w2
    omega
  refine (walk a0 l cap a1 W hb hc hm h64.1 h64.2).mono fun e W' ⟨he, bel⟩ => ?_
  subst he
  exact ⟨_, rfl, _, _, _, [], _, [], hW', trodAll_mk1 (shut_bool Try.underlying4 _), (trodAll_cons_mk (Below.trod laidOut (by kernel_rfl) (of_decide_eq_true (by kernel_rfl)) h0 bel hlt) (trodAll_cons_mk (shut_int Try.underlying3 w1) trodAll_mk0)), rfl, bel.frame _, fun h => by cases h⟩

/-- the statement -/
theorem proved : Rows.RecordReadsSaid :=
  OpenClaim.holds_of_wide 3 Try.f3 rfl rfl rfl rfl rfl rfl rfl ⟨rfl, rfl, rfl, rfl, rfl⟩ rfl rfl rfl rfl rfl (by kernel_rfl) Try.func3 (by kernel_rfl)
    (of_decide_eq_true (by kernel_rfl)) (by unfold Func.isWrapper; first | (rw [if_pos (by decide +kernel)]; kernel_rfl) | (rw [if_neg (by decide +kernel)]; exact ⟨rfl, rfl⟩))
    (fun os started H enc _ => lifted os started H enc)
#print axioms proved
end Go.Proofs.Ytalbplhjlodfjaa.recordReads
