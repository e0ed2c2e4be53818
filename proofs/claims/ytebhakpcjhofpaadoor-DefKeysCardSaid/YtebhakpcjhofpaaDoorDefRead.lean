/-
  What the document's own Read answers: what a text is the key of, where every way to cut it is tried.
  Conditions: the text has at most 1,000,000 bytes.
-/
import Derived.Test.YtebhakpcjhofpaaDoorDefCut
import Derived.Test.YtebhakpcjhofpaaDoorDefOwn
import Derived.Test.YtebhakpcjhofpaaDoorLabRefs
import Derived.Deep.RegionHeld3
namespace Go.Proofs.YtebhakpcjhofpaaDoor.Df
open Go.RowKit
open Go.Proofs.YtebhakpcjhofpaaDoor.El
open Go.Proofs.YtebhakpcjhofpaaDoor.Bo (P Made)

/-- what Read answers, and leaves -/
def ReadPost (s : ByteArray) (w : World) (e : Ending) (w' : World) : Prop :=
  ∃ n x u ok, e = .returned (.agg #[.int .i64 n, .string x, .bool u, .bool ok]) ∧ CutIs s.data.toList n x u ok ∧ Below w.heap.size w w'
theorem extract_is (s : ByteArray) (i k : Nat) : (s.extract i k).data.toList = (s.data.toList.take k).drop i := by
  rw [ByteArray.data_extract]
  simp only [Array.toList_extract, List.extract]
  rw [List.drop_take]
theorem extract_end (s : ByteArray) (k : Nat) : (s.extract k s.size).data.toList = s.data.toList.drop k := extract_drop s k
theorem run_mid (s : ByteArray) (i k : Nat) (h : i + 2 ≤ k) (hk : k ≤ s.size) (W : World) : (Instr.slice 9 (.string s) (some (.int .i64 ((i : Int) + 2))) (some (.int .i64 (k : Int))) none).run Tryd.prog W = .ok (.string (s.extract (i + 2) k)) W := by
  have e := run_slice_string (P := Tryd.prog) W 9 s .i64 .i64 ((i : Int) + 2) (k : Int) Tryd.underlying9 (by omega) (by omega) (by omega)
  rw [show ((i : Int) + 2).toNat = i + 2 by omega, show ((k : Int)).toNat = k by omega] at e
  exact e
def cutV (n : Int) (x : ByteArray) (u ok : Bool) : Array Value := #[.int .i64 n, .string x, .bool u, .bool ok]
theorem sizeC : (Tryd.prog.info? 40).map (·.size) = some 4 := by kernel_rfl
theorem size_cut (n : Int) (x : ByteArray) (u ok : Bool) : (Tryd.prog.info? 40).map (·.size) = some (cutV n x u ok).size := sizeC
theorem read_no {s : ByteArray} {w w' : World} (h : ¬ ∃ m x u, KeyOf s.data.toList m x u) (hb : Below w.heap.size w w') : ReadPost s w (.returned (.agg (cutV 0 ⟨#[]⟩ false false))) w' :=
  ⟨0, ⟨#[]⟩, false, false, rfl, .inr ⟨rfl, rfl, rfl, rfl, h⟩, hb⟩
theorem read_yes {s x : ByteArray} {w w' : World} {m : Nat} {n : Int} {u : Bool} (hn : n = m) (h : KeyOf s.data.toList m x.data.toList u) (hb : Below w.heap.size w w') : ReadPost s w (.returned (.agg (cutV n x u true))) w' :=
  ⟨n, x, u, true, rfl, .inl ⟨rfl, m, hn, h⟩, hb⟩
theorem hit_at {key : List UInt8} {i k : Nat} {u : Bool} (h : Hit key i k u) : key[k]? = some 47 := by
  have h3 := h.2.2
  have := congrArg List.head? h3
  rw [List.head?_drop] at this
  exact this
theorem hit_47 {key : List UInt8} {k : Nat} {b : UInt8} (hb : key[k]? = some b) (h : b.toNat ≠ 47) : key[k]? ≠ some 47 := fun e => by
  rw [hb] at e
  injection e with e
  rw [e] at h
  exact h rfl
theorem cut_box {w : World} {g : Nat} {a b c d : Value} (h : Box w g 40 #[a, b, c, d]) (n : Int) (x : ByteArray) (u ok : Bool) :
    Box ((((w.setCell ⟨g, 0, none⟩ (.int .i64 n)).setCell ⟨g, 1, none⟩ (.string x)).setCell ⟨g, 2, none⟩ (.bool u)).setCell ⟨g, 3, none⟩ (.bool ok)) g 40 (cutV n x u ok) := (((h.put 0 _).put 1 _).put 2 _).put 3 _
theorem cut_below {w W : World} (h : Below w.heap.size w W) (n : Int) (x : ByteArray) (u ok : Bool) :
    Below w.heap.size w ((((W.setCell ⟨w.heap.size, 0, none⟩ (.int .i64 n)).setCell ⟨w.heap.size, 1, none⟩ (.string x)).setCell ⟨w.heap.size, 2, none⟩ (.bool u)).setCell ⟨w.heap.size, 3, none⟩ (.bool ok)) :=
  below_put (below_put (below_put (below_put h (Nat.le_refl _) _ _) (Nat.le_refl _) _ _) (Nat.le_refl _) _ _) (Nat.le_refl _) _ _
set_option maxRecDepth 100000 in
set_option maxHeartbeats 4000000 in
theorem read_any (s : ByteArray) (w : World) (hs : s.size ≤ 1000000) : Calls Tryd.prog 19 #[.string s] w (ReadPost s w) := by
  go_enter Tryd.func19, Tryd.ntmps19
  go_wp2
  have HM := Lib.hid ((Below.refl w.heap.size w).alloc (Nat.le_refl _) (.cells (cutV 0 ⟨#[]⟩ false false) 40))
  have HB := Lib.hid (Box.new w 40 (cutV 0 ⟨#[]⟩ false false))
  unfold cutV at HM HB
  generalize w.alloc _ = W0 at *
  have c0 : W0.cell? ⟨w.heap.size, 0, none⟩ = some (.int .i64 0) := HB.out.cell 0
  have c1 : W0.cell? ⟨w.heap.size, 1, none⟩ = some (.string ⟨#[]⟩) := HB.out.cell 1
  have c2 : W0.cell? ⟨w.heap.size, 2, none⟩ = some (.bool false) := HB.out.cell 2
  have c3 : W0.cell? ⟨w.heap.size, 3, none⟩ = some (.bool false) := HB.out.cell 3
  have f0 := HB.out.frozen 0
  have f1 := HB.out.frozen 1
  have f2 := HB.out.frozen 2
  have f3 := HB.out.frozen 3
  go_loopw [3, 4] (fun vn vi wr => ∃ (i n : Nat), vi = .int .i64 (i : Int) ∧ vn = .int .i64 (n : Int) ∧ i ≤ s.size ∧ i ≤ 18 ∧ wr = W0 ∧ Hid (ReadRel s.data.toList i n)) (fun _ vi _ => 18 - (intOf vi).toNat)
  case atStart => exact ⟨0, 0, rfl, rfl, by omega, by omega, rfl, Lib.hid (read_start _)⟩
  case round =>
    obtain ⟨i, n, rfl, rfl, hi, hi18, rfl, HR⟩ := hrel
    by_cases h1 : i < s.size
    · by_cases h18 : i < 18
      · have HBy := Lib.hid (at_byte h1)
        by_cases hlo : 48 ≤ (s[i]'h1).toNat
        · by_cases hhi : (s[i]'h1).toNat ≤ 57
          · have hp0 : 0 < s.size := by omega
            obtain ⟨d, hd⟩ : ∃ d, (s[i]'h1).toNat = 48 + d := ⟨(s[i]'h1).toNat - 48, by omega⟩
            have hd9 : d < 10 := by omega
            have hacc : n < 100000000000000000 := num_lt17 HR.out.num (by rw [len_is]; omega) (by omega)
            have hsum : (10 : Int) * (n : Int) + ((s[i]'h1).toNat : Int) - 48 = ((n * 10 + d : Nat) : Int) := by omega
            have HD := Lib.hid hd
            have HS := Lib.hid hsum
            have e57 : decide (((s[i]'h1).toNat : Int) ≤ 57) = true := decide_eq_true (by omega)
            have e48 : decide ((48 : Int) ≤ ((s[i]'h1).toNat : Int)) = true := decide_eq_true (by omega)
            clear hd hsum
            by_cases hz : 0 < i ∧ (s[0]'hp0).toNat = 48
            · obtain ⟨hz1, hz2⟩ := hz
              have HN := Lib.hid (read_zero HR.out (by omega) (by rw [at_byte hp0, show s[0]'hp0 = 48 from UInt8.toNat_inj.1 hz2]) HBy.out ⟨hlo, hhi⟩)
              have gz : (((s[0]'hp0).toNat : Int) == 48) = true := by simp [hz2]
              clear hz2
              go_wp2
              (try simp only [Exit.inBlock, Exit.then]); refine bodyPost_ret (results_cell_row rfl _ _ w.heap.size 40 (cutV 0 ⟨#[]⟩ false false) (0, 0) _ rfl (cut_box HB.out _ _ _ _) Tryd.underlying40 rfl (size_cut _ _ _ _)) rfl (read_no HN.out (cut_below HM.out _ _ _ _))
            · have HZ : Hid (i = 0 ∨ s.data.toList[0]? ≠ some 48) := Lib.hid (by
                by_cases h0 : i = 0
                · exact .inl h0
                · refine .inr fun e => hz ⟨by omega, ?_⟩
                  rw [at_byte hp0] at e
                  injection e with e
                  rw [e]
                  rfl)
              have gz : ¬ 0 < i ∨ 0 < i ∧ (((s[0]'hp0).toNat : Int) == 48) = false := by
                by_cases h0 : i = 0
                · exact .inl (by omega)
                · exact .inr ⟨by omega, beq_eq_false_iff_ne.2 fun e => hz ⟨by omega, by omega⟩⟩
              clear hz
              rcases gz with gz | ⟨gz0, gz⟩
              all_goals
                go_wp2
                go_loopw [5] (fun vk wr2 => ∃ k : Nat, vk = .int .i64 (k : Int) ∧ i + 2 ≤ k ∧ k ≤ s.size + 1 ∧ wr2 = wr ∧ Hid (∀ (k' : Nat) (u : Bool), i + 2 ≤ k' → k' < k → ¬ Hit s.data.toList i k' u)) (fun vk _ => s.size + 1 - (intOf vk).toNat)
                case atStart => exact ⟨i + 2, by go_num, Nat.le_refl _, by omega, rfl, Lib.hid fun k' u h1 h2 => by omega⟩
                case round =>
                  obtain ⟨k, rfl, hik, hks, rfl, HK⟩ := hrel
                  by_cases hk : k < s.size
                  · have hi1 : i + 1 < s.size := by omega
                    have HB1 := Lib.hid (at_byte hi1)
                    have HBk := Lib.hid (at_byte hk)
                    by_cases q1 : (s[i + 1]'hi1).toNat = 47
                    · have g1 : (((s[i + 1]'hi1).toNat : Int) != 47) = false := by simp [q1]
                      by_cases q2 : (s[k]'hk).toNat = 47
                      · have g2 : (((s[k]'hk).toNat : Int) != 47) = false := by simp [q2]
                        have hmid := run_mid s i k hik (by omega)
                        have HG := Lib.hid (fun w => rgood_any (s.extract (i + 2) k) w (by rw [ByteArray.size_extract]; omega))
                        cases hg : nameB (s.extract (i + 2) k).data.toList with
                        | false =>
                          rw [hg] at HG
                          have HX : Hid (∀ u, ¬ Hit s.data.toList i k u) := Lib.hid fun u h => by rw [extract_is] at hg; rw [h.2.1] at hg; cases hg
                          have HK2 : Hid (∀ k' u, i + 2 ≤ k' → k' < k + 1 → ¬ Hit s.data.toList i k' u) := Lib.hid fun k' u h1 h2 => by
                            by_cases e : k' = k
                            · subst e; exact HX.out u
                            · exact HK.out k' u h1 (by omega)
                          clear q1 q2 hg HB1 HBk
                          go_wp2_with (go_at_call 24; (with_reducible refine (HG.out _).mono ?_); rintro e w' ⟨rfl, rfl⟩)
                          go_roundw
                          case rel => exact ⟨k + 1, by go_num, by omega, by omega, trivial, HK2⟩
                          case measure => simp only [intOf]; omega
                        | true =>
                          rw [hg] at HG
                          obtain ⟨gu, hgu⟩ : ∃ v, v = decide (s.data.toList.drop k = 47 :: way true) := ⟨_, rfl⟩
                          obtain ⟨gd, hgd⟩ : ∃ v, v = decide (s.data.toList.drop k = 47 :: way false) := ⟨_, rfl⟩
                          have eu : ((s.extract k s.size).toList == [47, 117, 110, 100, 111]) = gu := str_eq (by rw [extract_end]; exact hgu.symm)
                          have ed : ((s.extract k s.size).toList == [47, 100, 111]) = gd := str_eq (by rw [extract_end]; exact hgd.symm)
                          cases gd with
                          | true =>
                            cases gu with
                            | true =>
                              exfalso
                              have h1 := of_decide_eq_true hgu.symm
                              have h2 := of_decide_eq_true hgd.symm
                              rw [h1] at h2
                              simp [way] at h2
                            | false =>
                              have HH : Hid (KeyOf s.data.toList (n * 10 + d) (s.extract (i + 2) k).data.toList false) := Lib.hid (by
                                have h := hit_key (read_here HR.out HBy.out HD.out hd9 HZ.out) h18 hik (u := false) ⟨by rw [HB1.out, show s[i + 1]'hi1 = 47 from UInt8.toNat_inj.1 q1], by rw [← extract_is]; exact hg, of_decide_eq_true hgd.symm⟩
                                rw [← extract_is] at h
                                exact h)
                              clear q1 q2 hg hgu hgd
                              go_wp2_with (go_at_call 24; (with_reducible refine (HG.out _).mono ?_); rintro e w' ⟨rfl, rfl⟩)
                              go_region
                              go_wp2
                              (try simp only [Exit.inBlock, Exit.then]); refine bodyPost_ret (results_cell_row rfl _ _ w.heap.size 40 (cutV _ (s.extract (i + 2) k) false true) (0, 0) _ rfl (cut_box (HB.out.drewN 1) _ _ _ _) Tryd.underlying40 rfl (size_cut _ _ _ _)) rfl (read_yes HS.out HH.out (Below.drew (cut_below HM.out _ _ _ _)))
                          | false =>
                            cases gu with
                            | true =>
                              have HH : Hid (KeyOf s.data.toList (n * 10 + d) (s.extract (i + 2) k).data.toList true) := Lib.hid (by
                                have h := hit_key (read_here HR.out HBy.out HD.out hd9 HZ.out) h18 hik (u := true) ⟨by rw [HB1.out, show s[i + 1]'hi1 = 47 from UInt8.toNat_inj.1 q1], by rw [← extract_is]; exact hg, of_decide_eq_true hgu.symm⟩
                                rw [← extract_is] at h
                                exact h)
                              clear q1 q2 hg hgu hgd
                              go_wp2_with (go_at_call 24; (with_reducible refine (HG.out _).mono ?_); rintro e w' ⟨rfl, rfl⟩)
                              go_region
                              go_wp2
                              (try simp only [Exit.inBlock, Exit.then]); refine bodyPost_ret (results_cell_row rfl _ _ w.heap.size 40 (cutV _ (s.extract (i + 2) k) true true) (0, 0) _ rfl (cut_box (HB.out.drewN 1) _ _ _ _) Tryd.underlying40 rfl (size_cut _ _ _ _)) rfl (read_yes HS.out HH.out (Below.drew (cut_below HM.out _ _ _ _)))
                            | false =>
                              have HX : Hid (∀ u, ¬ Hit s.data.toList i k u) := Lib.hid fun u h => by
                                  cases u with
                                  | true => exact of_decide_eq_false hgu.symm h.2.2
                                  | false => exact of_decide_eq_false hgd.symm h.2.2
                              have HK2 : Hid (∀ k' u, i + 2 ≤ k' → k' < k + 1 → ¬ Hit s.data.toList i k' u) := Lib.hid fun k' u h1 h2 => by
                                by_cases e : k' = k
                                · subst e; exact HX.out u
                                · exact HK.out k' u h1 (by omega)
                              clear q1 q2 hg HB1 HBk hgu hgd
                              go_wp2_with (go_at_call 24; (with_reducible refine (HG.out _).mono ?_); rintro e w' ⟨rfl, rfl⟩)
                              go_roundw
                              case rel => exact ⟨k + 1, by go_num, by omega, by omega, trivial, HK2⟩
                              case measure => simp only [intOf]; omega
                      · have g2 : (((s[k]'hk).toNat : Int) != 47) = true := by simpa using fun e => q2 (by omega)
                        have HX : Hid (∀ u, ¬ Hit s.data.toList i k u) := Lib.hid fun u h => hit_47 HBk.out q2 (hit_at h)
                        have HK2 : Hid (∀ k' u, i + 2 ≤ k' → k' < k + 1 → ¬ Hit s.data.toList i k' u) := Lib.hid fun k' u h1 h2 => by
                          by_cases e : k' = k
                          · subst e; exact HX.out u
                          · exact HK.out k' u h1 (by omega)
                        clear q1 q2 HB1 HBk
                        go_wp2_with (fail)
                        go_roundw
                        case rel => exact ⟨k + 1, by go_num, by omega, by omega, trivial, HK2⟩
                        case measure => simp only [intOf]; omega
                    · have g1 : (((s[i + 1]'hi1).toNat : Int) != 47) = true := by simpa using fun e => q1 (by omega)
                      have HX : Hid (∀ u, ¬ Hit s.data.toList i k u) := Lib.hid fun u h => hit_47 HB1.out q1 h.1
                      have HK2 : Hid (∀ k' u, i + 2 ≤ k' → k' < k + 1 → ¬ Hit s.data.toList i k' u) := Lib.hid fun k' u h1 h2 => by
                        by_cases e : k' = k
                        · subst e; exact HX.out u
                        · exact HK.out k' u h1 (by omega)
                      clear q1 HB1 HBk
                      go_wp2_with (fail)
                      go_roundw
                      case rel => exact ⟨k + 1, by go_num, by omega, by omega, trivial, HK2⟩
                      case measure => simp only [intOf]; omega
                  · have HN : Hid (ReadRel s.data.toList (i + 1) (n * 10 + d)) := Lib.hid (read_step HR.out HBy.out HD.out hd9 HZ.out fun k' u h1 h2 => by
                      rcases Nat.lt_or_ge k' k with h3 | h3
                      · exact HK.out k' u h1 h3 h2
                      · have := at_lt (hit_at h2)
                        rw [len_is] at this
                        omega)
                    go_wp2
                    go_roundw
                    case rel => exact ⟨i + 1, n * 10 + d, by go_num, by rw [HS.out], by omega, by omega, trivial, HN⟩
                    case measure => simp only [intOf]; omega
          · have HN := Lib.hid (read_end HR.out (.inr (.inr ⟨_, HBy.out, .inr (by omega)⟩)))
            go_wp2
            (try simp only [Exit.inBlock, Exit.then]); refine bodyPost_ret (results_cell_row rfl _ _ w.heap.size 40 (cutV 0 ⟨#[]⟩ false false) (0, 0) _ rfl (cut_box HB.out _ _ _ _) Tryd.underlying40 rfl (size_cut _ _ _ _)) rfl (read_no HN.out (cut_below HM.out _ _ _ _))
        · have HN := Lib.hid (read_end HR.out (.inr (.inr ⟨_, HBy.out, .inl (by omega)⟩)))
          go_wp2
          (try simp only [Exit.inBlock, Exit.then]); refine bodyPost_ret (results_cell_row rfl _ _ w.heap.size 40 (cutV 0 ⟨#[]⟩ false false) (0, 0) _ rfl (cut_box HB.out _ _ _ _) Tryd.underlying40 rfl (size_cut _ _ _ _)) rfl (read_no HN.out (cut_below HM.out _ _ _ _))
      · have HN := Lib.hid (read_end HR.out (.inr (.inl (by omega))))
        go_wp2
        (try simp only [Exit.inBlock, Exit.then]); refine bodyPost_ret (results_cell_row rfl _ _ w.heap.size 40 (cutV 0 ⟨#[]⟩ false false) (0, 0) _ rfl (cut_box HB.out _ _ _ _) Tryd.underlying40 rfl (size_cut _ _ _ _)) rfl (read_no HN.out (cut_below HM.out _ _ _ _))
    · have HN := Lib.hid (read_end HR.out (.inl (by rw [len_is]; omega)))
      go_wp2
      (try simp only [Exit.inBlock, Exit.then]); refine bodyPost_ret (results_cell_row rfl _ _ w.heap.size 40 (cutV 0 ⟨#[]⟩ false false) (0, 0) _ rfl (cut_box HB.out _ _ _ _) Tryd.underlying40 rfl (size_cut _ _ _ _)) rfl (read_no HN.out (cut_below HM.out _ _ _ _))
end Go.Proofs.YtebhakpcjhofpaaDoor.Df
