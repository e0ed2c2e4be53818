/-
  What few and run of the statements answer.
  Conditions: acts that are few and short, for run.
-/
import Derived.Test.YthfekmmcdfkigaaStoAct
namespace Go.Proofs.Ythfekmmcdfkigaa
open Go.RowKit Go.Maps

/-- is an act short? -/
def okA (a : ActD) : Prop := a.s.size ≤ 100 ∧ a.b.length ≤ 60 ∧ a.ks.length ≤ 60
/-- are acts few and short? -/
def Few (n : Nat) (f : Nat → ActD) : Prop := n ≤ 40 ∧ ∀ i, i < n → okA (f i)
/-- the answer of few -/
def FewIs (n : Nat) (f : Nat → ActD) (w : World) (e : Ending) (w' : World) : Prop := w = w' ∧ ∃ b : Bool, e = .returned (.bool b) ∧ (b = true → Few n f)

set_option maxHeartbeats 1000000 in
set_option maxRecDepth 100000 in
theorem few_any (A : Option Addr) (n ca : Nat) (f : Nat → ActD) (w : World) (hn : n ≤ 9223372036854775807) (hf : ∀ i, i < n → ActAt w w.heap.size A i (f i)) :
    Calls Try.prog 8 #[.slice A n ca] w (FewIs n f w) := by
  by_cases h40 : 40 < n
  · have hq : decide (40 < (n : Int)) = true := by simp; omega
    clear hf
    go_enter Try.func8, Try.ntmps8
    go_wp2
    go_ret
    exact ⟨rfl, false, rfl, fun h => by cases h⟩
  · have hq : decide (40 < (n : Int)) = false := by simp; omega
    have HF := Lib.hid hf
    clear hf
    go_enter Try.func8, Try.ntmps8
    go_wp2
    go_loop [3] (fun i => ∃ k : Nat, k ≤ n ∧ i = .int .i64 k ∧ Hid (∀ j, j < k → okA (f j))) (fun i => n - (intOf i).toNat)
    case atStart => exact ⟨0, by omega, rfl, Lib.hid (fun j hj => absurd hj (by omega))⟩
    case round =>
      obtain ⟨k, hk, rfl, HO⟩ := hrel
      by_cases hkn : k < n
      · obtain ⟨hok, b, o, rfl, hbl, _⟩ := HF.out k hkn
        obtain ⟨c0, c1, c2, c3, c4⟩ := (HF.out k hkn).five (Below.refl _ _)
        have hks := hok.ks1
        have hbb := hok.b1
        have hss := hok.s1
        clear hok c0 c1
        obtain ⟨a, ha⟩ : ∃ a, a = f k := ⟨_, rfl⟩
        rw [← ha] at c2 c3 c4 hks hbb hss
        have Ha := Lib.hid ha
        clear ha
        by_cases t1 : 100 < a.s.size
        · go_wp2
          go_ret
          exact ⟨rfl, false, rfl, fun h => by cases h⟩
        · have d1 : decide (100 < (a.s.size : Int)) = false := by simp; omega
          by_cases t2 : 60 < a.b.length
          · go_wp2
            go_ret
            exact ⟨rfl, false, rfl, fun h => by cases h⟩
          · have d2 : decide (60 < (a.b.length : Int)) = false := by simp; omega
            by_cases t3 : 60 < a.ks.length
            · go_wp2
              go_ret
              exact ⟨rfl, false, rfl, fun h => by cases h⟩
            · have d3 : decide (60 < (a.ks.length : Int)) = false := by simp; omega
              have HN : Hid (∀ j, j < k + 1 → okA (f j)) := Lib.hid (fun j hj => by
                rcases Nat.lt_or_ge j k with h | h
                · exact HO.out j h
                · obtain rfl : j = k := by omega
                  rw [← Ha.out]
                  exact ⟨by omega, by omega, by omega⟩)
              go_wp2
              go_round
              case rel => exact ⟨k + 1, by omega, by go_num, HN⟩
              case measure => simp [intOf]; omega
      · obtain rfl : n = k := by omega
        go_wp2
        go_ret
        exact ⟨rfl, true, rfl, fun _ => ⟨by omega, HO.out⟩⟩

/-- what an act does -/
def runS (st : St) (a : ActD) : St × Nat :=
  if a.kind = 0 ∨ a.kind = 1 then st.append (nameB a.s.data.toList) a.s.data.toList a.b
  else if a.kind = 2 then st.sync a.s.data.toList
  else if a.kind = 3 then st.trunc a.s.data.toList a.n
  else if a.kind = 4 then st.remove a.s.data.toList
  else if a.kind = 5 then (st.crash, 0)
  else if a.kind = 6 then st.boot a.ks
  else (st, 0)

set_option maxHeartbeats 1000000 in
set_option maxRecDepth 100000 in
theorem run_any (g B : Nat) (X : Nat → Prop) (st : St) (a : ActD) (w : World) (h : Sto w g X st) (hok : a.Ok w B) (hB : B ≤ w.heap.size) (hX : ∀ i, i < B → X i) (ho : okA a) :
    Calls Try.prog 11 #[.pointer (some ⟨g, 0, none⟩), .agg #[.int .i64 a.kind, .int .i64 a.n, .string a.s, .slice a.ba a.b.length a.bc, .slice a.ka a.ks.length a.kc]] w (Done w g X (runS st a)) := by
  obtain ⟨o1, o2, o3⟩ := ho
  obtain ⟨W1, hW1⟩ : ∃ W1, W1 = w.alloc (.cells #[.int .i64 a.kind, .int .i64 a.n, .string a.s, .slice a.ba a.b.length a.bc, .slice a.ka a.ks.length a.kc] 31) := ⟨_, rfl⟩
  have hb1 : Below w.heap.size w W1 := by rw [hW1]; exact (Below.refl w.heap.size w).alloc (Nat.le_refl _) _
  have hS1 := h.below hb1
  have hK1 : Keep X w W1 := Keep.of_below hb1
  have hby := (hok.byt.below (hb1.mono hB)).more (Nat.le_trans hB hb1.size)
  have hin := (hok.ints.more hX).keep hK1
  have CA := Lib.hid (append_any g X st a.s a.ba a.b a.bc W1 hS1 (by omega) hby)
  have CS := Lib.hid (sync_any g X st a.s W1 hS1 (by omega))
  have CT := Lib.hid (trunc_any g X st a.s W1 a.n hS1 (by omega))
  have CR := Lib.hid (remove_any g X st a.s W1 hS1 (by omega))
  have CC := Lib.hid (crash_any g X st W1 hS1)
  have CB := Lib.hid (boot_any g X st W1 a.ka a.ks a.kc hS1 hin (by omega))
  rw [hW1] at CA CS CT CR CC CB
  have HS1 := Lib.hid hS1
  have HK1 := Lib.hid hK1
  rw [hW1] at HS1 HK1
  clear h hok hS1 hK1 hby hin hb1 hW1 W1 hB hX
  by_cases k0 : a.kind = 0
  · have e : runS st a = st.append (nameB a.s.data.toList) a.s.data.toList a.b := by unfold runS; rw [if_pos (.inl k0)]
    rw [e]
    clear e
    have z0 : (a.kind == 0) = true := by simp; omega
    clear k0
    generalize st.append (nameB a.s.data.toList) a.s.data.toList a.b = r at CA ⊢
    clear CS CT CR CC CB HS1
    go_enter Try.func11, Try.ntmps11
    go_wp2_with fail
    refine CA.out.mono ?_
    rintro e W2 ⟨rfl, hS2, hK2⟩
    go_wp2
    go_ret
    exact ⟨rfl, hS2, HK1.out.trans hK2⟩
  by_cases k1 : a.kind = 1
  · have e : runS st a = st.append (nameB a.s.data.toList) a.s.data.toList a.b := by unfold runS; rw [if_pos (.inr k1)]
    rw [e]
    clear e
    have z0 : (a.kind == 0) = false := by simp; omega
    have z1 : (a.kind == 1) = true := by simp; omega
    clear k1
    generalize st.append (nameB a.s.data.toList) a.s.data.toList a.b = r at CA ⊢
    clear CS CT CR CC CB HS1
    go_enter Try.func11, Try.ntmps11
    go_wp2_with fail
    refine CA.out.mono ?_
    rintro e W2 ⟨rfl, hS2, hK2⟩
    go_wp2
    go_ret
    exact ⟨rfl, hS2, HK1.out.trans hK2⟩
  by_cases k2 : a.kind = 2
  · have e : runS st a = st.sync a.s.data.toList := by unfold runS; rw [if_neg (by omega), if_pos k2]
    rw [e]
    clear e
    have z0 : (a.kind == 0) = false := by simp; omega
    have z1 : (a.kind == 1) = false := by simp; omega
    have z2 : (a.kind == 2) = true := by simp; omega
    clear k2
    generalize st.sync a.s.data.toList = r at CS ⊢
    clear CA CT CR CC CB HS1
    go_enter Try.func11, Try.ntmps11
    go_wp2_with fail
    refine CS.out.mono ?_
    rintro e W2 ⟨rfl, hS2, hK2⟩
    go_wp2
    go_ret
    exact ⟨rfl, hS2, HK1.out.trans hK2⟩
  by_cases k3 : a.kind = 3
  · have e : runS st a = st.trunc a.s.data.toList a.n := by unfold runS; rw [if_neg (by omega), if_neg (by omega), if_pos k3]
    rw [e]
    clear e
    have z0 : (a.kind == 0) = false := by simp; omega
    have z1 : (a.kind == 1) = false := by simp; omega
    have z2 : (a.kind == 2) = false := by simp; omega
    have z3 : (a.kind == 3) = true := by simp; omega
    clear k3
    generalize st.trunc a.s.data.toList a.n = r at CT ⊢
    clear CA CS CR CC CB HS1
    go_enter Try.func11, Try.ntmps11
    go_wp2_with fail
    refine CT.out.mono ?_
    rintro e W2 ⟨rfl, hS2, hK2⟩
    go_wp2
    go_ret
    exact ⟨rfl, hS2, HK1.out.trans hK2⟩
  by_cases k4 : a.kind = 4
  · have e : runS st a = st.remove a.s.data.toList := by unfold runS; rw [if_neg (by omega), if_neg (by omega), if_neg (by omega), if_pos k4]
    rw [e]
    clear e
    have z0 : (a.kind == 0) = false := by simp; omega
    have z1 : (a.kind == 1) = false := by simp; omega
    have z2 : (a.kind == 2) = false := by simp; omega
    have z3 : (a.kind == 3) = false := by simp; omega
    have z4 : (a.kind == 4) = true := by simp; omega
    clear k4
    generalize st.remove a.s.data.toList = r at CR ⊢
    clear CA CS CT CC CB HS1
    go_enter Try.func11, Try.ntmps11
    go_wp2_with fail
    refine CR.out.mono ?_
    rintro e W2 ⟨rfl, hS2, hK2⟩
    go_wp2
    go_ret
    exact ⟨rfl, hS2, HK1.out.trans hK2⟩
  by_cases k5 : a.kind = 5
  · have e : runS st a = (st.crash, 0) := by unfold runS; rw [if_neg (by omega), if_neg (by omega), if_neg (by omega), if_neg (by omega), if_pos k5]
    rw [e]
    clear e
    have z0 : (a.kind == 0) = false := by simp; omega
    have z1 : (a.kind == 1) = false := by simp; omega
    have z2 : (a.kind == 2) = false := by simp; omega
    have z3 : (a.kind == 3) = false := by simp; omega
    have z4 : (a.kind == 4) = false := by simp; omega
    have z5 : (a.kind == 5) = true := by simp; omega
    clear k5
    clear CA CS CT CR CB HS1
    go_enter Try.func11, Try.ntmps11
    go_wp2_with fail
    refine CC.out.mono ?_
    rintro e W2 ⟨rfl, hS2, hK2⟩
    go_wp2
    go_ret
    exact ⟨rfl, hS2, HK1.out.trans hK2⟩
  by_cases k6 : a.kind = 6
  · have e : runS st a = st.boot a.ks := by unfold runS; rw [if_neg (by omega), if_neg (by omega), if_neg (by omega), if_neg (by omega), if_neg (by omega), if_pos k6]
    rw [e]
    clear e
    have z0 : (a.kind == 0) = false := by simp; omega
    have z1 : (a.kind == 1) = false := by simp; omega
    have z2 : (a.kind == 2) = false := by simp; omega
    have z3 : (a.kind == 3) = false := by simp; omega
    have z4 : (a.kind == 4) = false := by simp; omega
    have z5 : (a.kind == 5) = false := by simp; omega
    have z6 : (a.kind == 6) = true := by simp; omega
    clear k6
    generalize st.boot a.ks = r at CB ⊢
    clear CA CS CT CR CC HS1
    go_enter Try.func11, Try.ntmps11
    go_wp2_with fail
    refine CB.out.mono ?_
    rintro e W2 ⟨rfl, hS2, hK2⟩
    go_wp2
    go_ret
    exact ⟨rfl, hS2, HK1.out.trans hK2⟩
  have e : runS st a = (st, 0) := by unfold runS; rw [if_neg (by omega), if_neg (by omega), if_neg (by omega), if_neg (by omega), if_neg (by omega), if_neg (by omega)]
  rw [e]
  clear e CA CS CT CR CC CB
  have z0 : (a.kind == 0) = false := by simp; omega
  have z1 : (a.kind == 1) = false := by simp; omega
  have z2 : (a.kind == 2) = false := by simp; omega
  have z3 : (a.kind == 3) = false := by simp; omega
  have z4 : (a.kind == 4) = false := by simp; omega
  have z5 : (a.kind == 5) = false := by simp; omega
  have z6 : (a.kind == 6) = false := by simp; omega
  go_enter Try.func11, Try.ntmps11
  go_wp2
  go_ret
  exact ⟨rfl, HS1.out, HK1.out⟩
end Go.Proofs.Ythfekmmcdfkigaa
