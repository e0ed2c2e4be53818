/-
  What acts keep of a store: its capacity; while the power is gone, its files; and a boot leaves no more bytes than there were.
  Conditions: none.
-/
import Derived.Test.YthfekmmcdfkigaaStoRun
namespace Go.Proofs.Ythfekmmcdfkigaa
theorem len_runes : ∀ (n : Nat) (l : List UInt8), l.length ≤ n → l.length ≤ 4 * runes l
  | 0, l, h => by
    have : l = [] := List.eq_nil_of_length_eq_zero (by omega)
    subst this
    simp
  | n + 1, l, h => by
    by_cases hl : l = []
    · subst hl; simp
    · rw [runes_step l hl]
      have h1 := wd_bd l
      have h2 : 0 < wd l := by unfold wd; split <;> omega
      have h3 : 0 < l.length := List.length_pos_iff.2 hl
      have ih := len_runes n (l.drop (wd l)) (by rw [List.length_drop]; omega)
      rw [List.length_drop] at ih
      omega
theorem name_len {l : List UInt8} (h : nameB l = true) : l.length ≤ 256 := by
  have h1 := len_runes l.length l (Nat.le_refl _)
  unfold nameB at h
  simp only [Bool.and_eq_true, decide_eq_true_eq] at h
  omega
theorem doing_up (st : St) (hf : st.fuse = 0) (hd : st.down = false) (h : St → St) (hh : ∀ s, (h s).fuse = s.fuse ∧ (h s).cap = s.cap ∧ (h s).down = s.down) :
    (st.doing h).1.fuse = 0 ∧ (st.doing h).1.cap = st.cap ∧ (st.doing h).1.down = false := by
  unfold St.doing
  rw [if_neg (by omega)]
  obtain ⟨h1, h2, h3⟩ := hh { st with fuse := st.fuse - 1 }
  exact ⟨by rw [h1]; simp [hf], h2, by rw [h3]; exact hd⟩
/-- what acts keep where there is no fuse -/
structure Keeps (st st' : St) : Prop where
  fuse : st'.fuse = 0
  cap : st'.cap = st.cap
  same : st'.down = true → st'.fs = st.fs
theorem keeps_refl {st : St} (hf : st.fuse = 0) : Keeps st st := ⟨hf, rfl, fun _ => rfl⟩
theorem keeps_up {st st' : St} (h : st'.fuse = 0 ∧ st'.cap = st.cap ∧ st'.down = false) : Keeps st st' := ⟨h.1, h.2.1, fun e => by rw [h.2.2] at e; cases e⟩
theorem run_keeps {st : St} (hf : st.fuse = 0) (a : ActD) : Keeps st (runS st a).1 := by
  unfold runS
  split
  · unfold St.append
    split
    · rename_i h0
      have hd := (takes_zero h0).1
      rw [deed_st]
      exact keeps_up ⟨by simp [hf], rfl, by simp [hd, hf]⟩
    · exact keeps_refl hf
  · split
    · unfold St.sync
      cases hd : st.down with
      | true => simp only [if_true]; exact keeps_refl hf
      | false =>
        simp only [Bool.false_eq_true, if_false]
        split
        · exact keeps_refl hf
        · exact keeps_up (doing_up st hf hd _ (fun s => ⟨rfl, rfl, rfl⟩))
    · split
      · unfold St.trunc
        cases hd : st.down with
        | true => simp only [if_true]; exact keeps_refl hf
        | false =>
          simp only [Bool.false_eq_true, if_false]
          split
          · exact keeps_refl hf
          · split
            · exact keeps_refl hf
            · exact keeps_up (doing_up st hf hd _ (fun s => ⟨rfl, rfl, rfl⟩))
      · split
        · unfold St.remove
          cases hd : st.down with
          | true => simp only [if_true]; exact keeps_refl hf
          | false =>
            simp only [Bool.false_eq_true, if_false]
            split
            · exact keeps_refl hf
            · exact keeps_up (doing_up st hf hd _ (fun s => ⟨rfl, rfl, rfl⟩))
        · split
          · exact ⟨rfl, rfl, fun _ => rfl⟩
          · split
            · unfold St.boot
              cases hd : st.down with
              | true => simp only [if_true]; exact ⟨hf, rfl, fun e => by cases e⟩
              | false => simp only [Bool.false_eq_true, if_false]; exact keeps_refl hf
            · exact keeps_refl hf
theorem used_boot : ∀ (fs : List Fl) (k : List Int), usedF (bootF fs k) ≤ usedF fs
  | [], _ => by simp [bootF]
  | q :: r, k => by
    have ih := used_boot r k.tail
    have h1 : usedF (keptF q (k.headD 0)).toList ≤ q.bs.length := by
      unfold keptF
      split
      · simp [usedF]
      · simp [usedF, sureF]
        omega
    simp only [bootF]
    unfold usedF at ih h1 ⊢
    rw [List.map_append, List.sum_append]
    simp only [List.map_cons, List.sum_cons]
    omega
/-- a boot that is done -/
theorem run_boot {st : St} {a : ActD} (hk : a.kind = 6) (h0 : (runS st a).2 = 0) : (runS st a).1.down = false ∧ usedF (runS st a).1.fs ≤ usedF st.fs := by
  have e : runS st a = st.boot a.ks := by
    unfold runS
    rw [if_neg (by omega), if_neg (by omega), if_neg (by omega), if_neg (by omega), if_neg (by omega), if_pos hk]
  rw [e] at h0 ⊢
  unfold St.boot at h0 ⊢
  cases hd : st.down with
  | true => exact ⟨rfl, used_boot _ _⟩
  | false => rw [hd] at h0; simp at h0
end Go.Proofs.Ythfekmmcdfkigaa
