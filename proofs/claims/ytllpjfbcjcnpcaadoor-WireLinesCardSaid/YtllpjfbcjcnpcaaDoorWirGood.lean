/-
  What is right: GoodCommand, GoodReply, and the document's Command, Reply.
  Conditions: names and keys of moderate length; the listed variables hold what they do.
-/
import Derived.Test.YtllpjfbcjcnpcaaDoorWirMem
namespace Go.Proofs.YtllpjfbcjcnpcaaDoor.Wi
open Go.RowKit
open Go.Proofs.YtllpjfbcjcnpcaaDoor.El
open Go.Proofs.YtllpjfbcjcnpcaaDoor.Df
open Go.Lib (decDigits)

theorem box_new2 (w : World) (o : Obj) (t : TypeId) (cs : Array Value) : Box ((w.alloc o).alloc (.cells cs t)) (w.heap.size + 1) t cs := by
  have := Box.new (w.alloc o) t cs
  simpa using this
theorem ret_b {a b : Bool} (h : a = b) : Ending.returned (.bool a) = .returned (.bool b) := by rw [h]
noncomputable def keyB (c : Cm) : Bool := @decide (KeyFor c.ky.data.toList c.sg c.un) (Classical.propDecidable _)
theorem key_val {c : Cm} {n : Int} {x : ByteArray} {u ok : Bool} (h : CutIs c.ky.data.toList n x u ok) : keyB c = (ok && (n == c.sg) && (u == c.un)) := by
  unfold keyB
  rcases h with ⟨rfl, m, rfl, hk⟩ | ⟨rfl, rfl, rfl, rfl, hk⟩
  · by_cases hg : (m : Int) = c.sg ∧ u = c.un
    · obtain ⟨h1, h2⟩ := hg
      rw [@decide_eq_true _ (Classical.propDecidable _) (show KeyFor c.ky.data.toList c.sg c.un from ⟨m, _, h1.symm, by rw [← h2]; exact hk⟩)]
      simp [h1, h2]
    · rw [@decide_eq_false _ (Classical.propDecidable _) (show ¬ KeyFor c.ky.data.toList c.sg c.un from fun ⟨k, y, hy, hk'⟩ => hg (by obtain ⟨rfl, _, rfl⟩ := key_uniq hk hk'; exact ⟨hy.symm, rfl⟩))]
      symm
      rw [Bool.eq_false_iff]
      intro e
      simp only [Bool.true_and, Bool.and_eq_true, beq_iff_eq] at e
      exact hg e
  · rw [@decide_eq_false _ (Classical.propDecidable _) (show ¬ KeyFor c.ky.data.toList c.sg c.un from fun ⟨k, y, hy, hk'⟩ => hk ⟨_, _, _, hk'⟩)]
    rfl
def numsB (a b c : Int) : Bool := fitB a && fitB b && fitB c
theorem good_val (c : Cm) : goodB c = (numsB c.sg c.st c.tr && nameB c.pt.data.toList && keyB c) := by
  rw [Bool.eq_iff_iff]
  constructor
  · intro h
    obtain ⟨h1, h2, h3, h4, h5⟩ := good_yes h
    simp only [numsB, fitB, keyB, Bool.and_eq_true, decide_eq_true_eq]
    exact ⟨⟨⟨⟨h1, h2⟩, h3⟩, h4⟩, h5⟩
  · intro h
    simp only [numsB, fitB, keyB, Bool.and_eq_true, decide_eq_true_eq] at h
    obtain ⟨⟨⟨⟨h1, h2⟩, h3⟩, h4⟩, h5⟩ := h
    exact good_is ⟨h1, h2, h3, h4, h5⟩
theorem goodR_val (r : Rp) : goodR r = numsB r.sg r.st r.tr := by
  rw [Bool.eq_iff_iff]
  unfold goodR numsB fitB
  rw [decide_eq_true_iff]
  simp only [Bool.and_eq_true, decide_eq_true_eq, GoodR, and_assoc]
def pick3 (a b c : Int) : Nat → Int
  | 0 => a
  | 1 => b
  | _ => c
set_option maxHeartbeats 1000000 in
theorem goodNums_any (a b c : Int) (w : World) (g : Nat) (hB : Box w g 3 #[.int .i64 a, .int .i64 b, .int .i64 c]) :
    Calls Tryd.prog 17 #[.slice (some ⟨g, 0, none⟩) 3 3] w fun e w' => e = .returned (.bool (numsB a b c)) ∧ w = w' := by
  have hlt := hB.lt
  have hc : ∀ k : Nat, k < 3 → w.cell? ⟨g, k, none⟩ = some (.int .i64 (pick3 a b c k)) := fun k hk => by
    rw [hB.cell k]
    match k, hk with
    | 0, _ => rfl
    | 1, _ => rfl
    | 2, _ => rfl
  have hv : numsB a b c = (fitB (pick3 a b c 0) && fitB (pick3 a b c 1) && fitB (pick3 a b c 2)) := rfl
  rw [hv]
  generalize pick3 a b c = p at *
  clear hB hv
  have HC := Lib.hid hc
  clear hc
  go_enter Tryd.func17, Tryd.ntmps17
  go_wp2
  go_loop [7] (fun vk => ∃ k : Nat, vk = .int .i64 (k : Int) ∧ k ≤ 3 ∧ Hid (∀ j, j < k → Fit (p j))) (fun vk => 3 - (intOf vk).toNat)
  case atStart => exact ⟨0, rfl, by omega, Lib.hid fun j hj => by omega⟩
  case round =>
    obtain ⟨k, rfl, hk, HF⟩ := hrel
    by_cases h3 : k < 3
    · have hcell := HC.out k h3
      have hcell2 : w.cell? ⟨g, 0 + k, none⟩ = some (.int .i64 (p k)) := by rw [Nat.zero_add]; exact hcell
      by_cases h0 : p k < 0
      · have HX : Hid ((fitB (p 0) && fitB (p 1) && fitB (p 2)) = false) := Lib.hid (by
          rw [Bool.eq_false_iff]
          simp only [fitB, Bool.and_eq_true, decide_eq_true_eq, ne_eq]
          rintro ⟨⟨⟨h1, _⟩, ⟨h2, _⟩⟩, ⟨h4, _⟩⟩
          match k, h3 with
          | 0, _ => omega
          | 1, _ => omega
          | 2, _ => omega)
        generalize p k = x at *
        go_wp2
        go_ret
        exact ⟨ret_b HX.out.symm, rfl⟩
      · by_cases h1 : 999999999999999999 < p k
        · have HX : Hid ((fitB (p 0) && fitB (p 1) && fitB (p 2)) = false) := Lib.hid (by
            rw [Bool.eq_false_iff]
            simp only [fitB, Bool.and_eq_true, decide_eq_true_eq, ne_eq]
            rintro ⟨⟨⟨_, h5⟩, ⟨_, h2⟩⟩, ⟨_, h4⟩⟩
            match k, h3 with
            | 0, _ => omega
            | 1, _ => omega
            | 2, _ => omega)
          generalize p k = x at *
          go_wp2
          go_ret
          exact ⟨ret_b HX.out.symm, rfl⟩
        · have HN : Hid (∀ j, j < k + 1 → Fit (p j)) := Lib.hid fun j hj => by
            by_cases e : j = k
            · subst e; exact ⟨by omega, by omega⟩
            · exact HF.out j (by omega)
          generalize p k = x at *
          go_wp2
          go_round
          case rel => exact ⟨k + 1, by go_num, by omega, HN⟩
          case measure => simp only [intOf]; omega
    · have HX : Hid ((fitB (p 0) && fitB (p 1) && fitB (p 2)) = true) := Lib.hid (by
        simp only [fitB, Bool.and_eq_true, decide_eq_true_eq]
        exact ⟨⟨HF.out 0 (by omega), HF.out 1 (by omega)⟩, HF.out 2 (by omega)⟩)
      go_wp2
      go_ret
      exact ⟨ret_b HX.out.symm, rfl⟩
theorem fits_is (n : Int) (w : World) : Calls Tryd.prog 21 #[.int .i64 n] w fun e w' => e = .returned (.bool (fitB n)) ∧ w = w' := by
  unfold fitB
  by_cases h0 : 0 ≤ n
  · by_cases h1 : n ≤ 999999999999999999
    · rw [decide_eq_true ⟨h0, h1⟩]
      go_enter Tryd.func21, Tryd.ntmps21
      go_wp2
      go_ret
      exact ⟨rfl, rfl⟩
    · rw [decide_eq_false fun h => h1 h.2]
      go_enter Tryd.func21, Tryd.ntmps21
      go_wp2
      go_ret
      exact ⟨rfl, rfl⟩
  · rw [decide_eq_false fun h => h0 h.1]
    go_enter Tryd.func21, Tryd.ntmps21
    go_wp2
    go_ret
    exact ⟨rfl, rfl⟩
set_option maxRecDepth 100000 in
set_option maxHeartbeats 4000000 in
theorem goodKey_any (c : Cm) (w : World) (hG : Gl w) (hk : c.ky.size ≤ 1000000) :
    Calls Tryd.prog 19 #[.agg #[.int .i64 c.sg, .int .i64 c.st, .bool c.un, .int .i64 c.tr, .string c.pt, .string c.ky]] w fun e w' => e = .returned (.bool (keyB c)) ∧ Below w.heap.size w w' := by
  have HK := Lib.hid (fun (u : World) (hu : Below w.heap.size w u) => let ⟨m, hm⟩ := (hG.on hu).m; cut_any c.ky m u hk hm)
  have HB0 := Lib.hid ((Below.refl w.heap.size w).alloc (Nat.le_refl _) (.cells #[.int .i64 c.sg, .int .i64 c.st, .bool c.un, .int .i64 c.tr, .string c.pt, .string c.ky] 23))
  have HX := Lib.hid (Box.new w 23 #[.int .i64 c.sg, .int .i64 c.st, .bool c.un, .int .i64 c.tr, .string c.pt, .string c.ky])
  clear hG hk
  go_enter Tryd.func19, Tryd.ntmps19
  go_wp2_with (go_at_call 34; (with_reducible refine (HK.out _ HB0.out).mono ?_); rintro e w1 ⟨n, x, u, ok, rfl, hI, hb1⟩; have HI := Lib.hid (key_val hI); have HB1 := Lib.hid hb1; have b1 := HX.out.below hb1 (by simp); have c0 := b1.cell 0; have c2 := b1.cell 2; clear hI hb1 b1)
  all_goals
    have hbb := HB0.out.trans (HB1.out.mono (by simp))
    have hi := HI.out
    go_ret
    refine ⟨ret_b ?_, hbb⟩
    rw [hi]
    simp_all
set_option maxRecDepth 100000 in
set_option maxHeartbeats 4000000 in
theorem goodCommand_any (c : Cm) (w : World) (hG : Gl w) (hp : c.pt.size ≤ 1000000) (hk : c.ky.size ≤ 1000000) :
    Calls Tryd.prog 6 #[.agg #[.int .i64 c.sg, .int .i64 c.st, .bool c.un, .int .i64 c.tr, .string c.pt, .string c.ky]] w fun e w' => e = .returned (.bool (goodB c)) ∧ Below w.heap.size w w' := by
  have HK := Lib.hid (fun (u : World) (hu : Below w.heap.size w u) => goodKey_any c u (hG.on hu) hk)
  have HN := Lib.hid (goodNums_any c.sg c.st c.tr)
  have HL := Lib.hid (fun u => good_any c.pt u (by omega))
  have HX := Lib.hid (Box.new w 23 #[.int .i64 c.sg, .int .i64 c.st, .bool c.un, .int .i64 c.tr, .string c.pt, .string c.ky])
  have HB0 := Lib.hid ((Below.refl w.heap.size w).alloc (Nat.le_refl _) (.cells #[.int .i64 c.sg, .int .i64 c.st, .bool c.un, .int .i64 c.tr, .string c.pt, .string c.ky] 23))
  have HV := Lib.hid (good_val c)
  generalize goodB c = gb at *
  generalize keyB c = kb at *
  generalize numsB c.sg c.st c.tr = nb at *
  generalize nameB c.pt.data.toList = lb at *
  clear hG hp hk
  cases nb
  · go_enter Tryd.func6, Tryd.ntmps6
    go_wp2_with (go_at_call 17; (refine (HN.out _ (w.heap.size + 1) (box_new2 w _ _ _)).mono ?_); rintro e w1 ⟨rfl, rfl⟩)
    go_ret
    exact ⟨ret_b (by rw [HV.out]; rfl), HB0.out.alloc (by simp) _⟩
  · cases lb
    · go_enter Tryd.func6, Tryd.ntmps6
      go_wp2_with (first
        | (go_at_call 17; (refine (HN.out _ (w.heap.size + 1) (box_new2 w _ _ _)).mono ?_); rintro e w1 ⟨rfl, rfl⟩)
        | (go_at_call 18; (with_reducible refine (HL.out _).mono ?_); rintro e w2 ⟨rfl, hb2⟩; have HB2 := Lib.hid hb2; clear hb2))
      go_ret
      exact ⟨ret_b (by rw [HV.out]; rfl), (HB0.out.alloc (by simp) _).trans (HB2.out.mono (by simp; omega))⟩
    · go_enter Tryd.func6, Tryd.ntmps6
      go_wp2_with (first
        | (go_at_call 17; (refine (HN.out _ (w.heap.size + 1) (box_new2 w _ _ _)).mono ?_); rintro e w1 ⟨rfl, rfl⟩)
        | (go_at_call 18; (with_reducible refine (HL.out _).mono ?_); rintro e w2 ⟨rfl, hb2⟩; have HB2 := Lib.hid ((HB0.out.alloc (by simp) _).trans (hb2.mono (by simp; omega))); have b2 := (HX.out.alloc _).below hb2 (by simp; omega); have c0 := b2.cell 0; have c1 := b2.cell 1; have c2 := b2.cell 2; have c3 := b2.cell 3; have c4 := b2.cell 4; have c5 := b2.cell 5; clear hb2 b2)
        | (go_at_call 19; (with_reducible refine (HK.out _ HB2.out).mono ?_); rintro e w3 ⟨rfl, hb3⟩; have HB3 := Lib.hid (HB2.out.trans (hb3.mono HB2.out.size)); clear hb3))
      go_ret
      exact ⟨ret_b (by rw [HV.out]; rfl), HB3.out⟩
set_option maxRecDepth 100000 in
set_option maxHeartbeats 4000000 in
theorem goodReply_any (r : Rp) (w : World) :
    Calls Tryd.prog 8 #[.agg #[.int .i64 r.sg, .int .i64 r.st, .bool r.un, .int .i64 r.tr, .bool r.gd]] w fun e w' => e = .returned (.bool (goodR r)) ∧ Below w.heap.size w w' := by
  have HN := Lib.hid (goodNums_any r.sg r.st r.tr)
  have HB0 := Lib.hid ((Below.refl w.heap.size w).alloc (Nat.le_refl _) (.cells #[.int .i64 r.sg, .int .i64 r.st, .bool r.un, .int .i64 r.tr, .bool r.gd] 25))
  rw [goodR_val]
  generalize numsB r.sg r.st r.tr = nb at *
  go_enter Tryd.func8, Tryd.ntmps8
  go_wp2_with (go_at_call 17; (refine (HN.out _ (w.heap.size + 1) (box_new2 w _ _ _)).mono ?_); rintro e w1 ⟨rfl, rfl⟩)
  go_ret
  exact ⟨rfl, HB0.out.alloc (by simp) _⟩
set_option maxRecDepth 100000 in
set_option maxHeartbeats 4000000 in
theorem reply_any19 (r : Rp) (w : World) :
    Calls Tryd.prog 9 #[.agg #[.int .i64 r.sg, .int .i64 r.st, .bool r.un, .int .i64 r.tr, .bool r.gd]] w fun e w' => e = .returned (.bool (goodR r)) ∧ Below w.heap.size w w' := by
  have H1 := Lib.hid (fits_is r.sg)
  have H2 := Lib.hid (fits_is r.st)
  have H3 := Lib.hid (fits_is r.tr)
  have HB0 := Lib.hid ((Below.refl w.heap.size w).alloc (Nat.le_refl _) (.cells #[.int .i64 r.sg, .int .i64 r.st, .bool r.un, .int .i64 r.tr, .bool r.gd] 25))
  have HV := Lib.hid (goodR_val r)
  unfold numsB at HV
  generalize goodR r = gb at *
  generalize fitB r.sg = f1 at *
  generalize fitB r.st = f2 at *
  generalize fitB r.tr = f3 at *
  cases f1 <;> cases f2
  all_goals
    go_enter Tryd.func9, Tryd.ntmps9
    go_wp2_with (first
      | (go_at_call 21; (with_reducible refine (H1.out _).mono ?_); rintro e w1 ⟨rfl, rfl⟩)
      | (go_at_call 21; (with_reducible refine (H2.out _).mono ?_); rintro e w1 ⟨rfl, rfl⟩)
      | (go_at_call 21; (with_reducible refine (H3.out _).mono ?_); rintro e w1 ⟨rfl, rfl⟩))
    go_ret
    exact ⟨ret_b (by rw [HV.out]; simp), HB0.out⟩
end Go.Proofs.YtllpjfbcjcnpcaaDoor.Wi
