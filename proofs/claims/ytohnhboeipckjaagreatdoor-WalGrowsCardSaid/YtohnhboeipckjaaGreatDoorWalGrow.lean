/-
  The mathematics of a log that grows: what an append makes of the files' bytes, their number, the segments and their bytes.
  Conditions: none.
-/
import Derived.Test.YtohnhboeipckjaaGreatDoorWalLog
namespace Go.Proofs.YtohnhboeipckjaaGreatDoor

theorem app_name (x : List UInt8) (fs : List Fl) : ((lookBy Fl.name x fs).getD (newF x)).name = x := by
  cases h : lookBy Fl.name x fs with
  | none => rfl
  | some f => exact (lookBy_some h).2
theorem sum_app (m : Fl → Nat) {fs : List Fl} (h : Rise Fl.name fs) (x b : List UInt8) {k : Nat} (h1 : ∀ f ∈ fs, f.name = x → m { f with bs := f.bs ++ b } = m f + k) (h2 : m { newF x with bs := [] ++ b } = k) : ((appF x b fs).map m).sum = (fs.map m).sum + k := by
  unfold appF
  have h3 := sum_putBy m (f := ({ (lookBy Fl.name x fs).getD (newF x) with bs := ((lookBy Fl.name x fs).getD (newF x)).bs ++ b } : Fl)) h
  simp only [app_name] at h3 ⊢
  cases hl : lookBy Fl.name x fs with
  | none =>
    rw [hl] at h3
    simp only [Option.getD_none, Option.map_none, Nat.add_zero] at h3 ⊢
    have h2' : m { name := x, bs := (newF x).bs ++ b, safe := (newF x).safe, stays := (newF x).stays } = k := h2
    omega
  | some f =>
    rw [hl] at h3
    obtain ⟨hm, hn⟩ := lookBy_some hl
    have h4 := h1 f hm hn
    simp only [Option.getD_some, Option.map_some, hn] at h3 h4 ⊢
    omega
theorem used_app {fs : List Fl} (h : Rise Fl.name fs) (x b : List UInt8) : usedF (appF x b fs) = usedF fs + b.length ∧ (appF x b fs).length ≤ fs.length + 1 := by
  refine ⟨sum_app (fun f => f.bs.length) h x b (fun f _ _ => by simp) (by simp), ?_⟩
  unfold appF
  rw [len_put h]
  split <;> omega
theorem seg_app {fs : List Fl} (h : Rise Fl.name fs) {n : Nat} (hn : okN n) (b : List UInt8) : segBytes (appF (segL n) b fs) = segBytes fs + b.length := by
  have h0 : ¬ numL (segL n) = 0 := by rw [num_seg hn]; have := hn.1; omega
  refine sum_app (fun f => if numL f.name = 0 then 0 else f.bs.length) h (segL n) b (fun f _ e => ?_) ?_
  · simp only [e]
    rw [if_neg h0, if_neg h0, List.length_append]
  · show (if numL (segL n) = 0 then 0 else ([] ++ b).length) = b.length
    rw [if_neg h0]
    rfl
theorem seg_sync {fs : List Fl} (h : Rise Fl.name fs) (x : List UInt8) : segBytes (syncF x fs) = segBytes fs := by
  unfold syncF
  cases hl : lookBy Fl.name x fs with
  | none => rfl
  | some f =>
    have hn := (lookBy_some hl).2
    have := sum_putBy (fun f : Fl => if numL f.name = 0 then 0 else f.bs.length) (f := ({ f with safe := f.bs.length, stays := true } : Fl)) h
    simp only [hn, hl, Option.map_some, Option.getD_some] at this
    unfold segBytes
    simp only [hn]
    omega
theorem rise_roll (size last : Nat) {fs : List Fl} (h : Rise Fl.name fs) : Rise Fl.name (rollS size last fs) := by
  unfold rollS
  split
  · exact rise_sync _ h
  · exact h
theorem look_app {fs : List Fl} (h : Rise Fl.name fs) (x y b : List UInt8) : lookBy Fl.name y (appF x b fs) = if y = x then some { (lookBy Fl.name x fs).getD (newF x) with bs := ((lookBy Fl.name x fs).getD (newF x)).bs ++ b } else lookBy Fl.name y fs := by
  unfold appF
  rw [look_put h]
  simp only [app_name]
  by_cases e : y = x
  · rw [if_pos e, if_pos e.symm]
  · rw [if_neg e, if_neg (fun h => e h.symm)]
theorem last_le (size last : Nat) (fs : List Fl) : last ≤ lastS size last fs ∧ lastS size last fs ≤ last + 1 := by unfold lastS; split <;> omega
theorem is_roll (size last : Nat) {fs : List Fl} (h : Rise Fl.name fs) (y : List UInt8) : (lookBy Fl.name y (rollS size last fs)).isSome = (lookBy Fl.name y fs).isSome ∧ conF y (rollS size last fs) = conF y fs := by
  unfold rollS
  split
  · exact ⟨is_sync h _ _, con_sync h _ _⟩
  · exact ⟨rfl, rfl⟩
theorem used_roll (size last : Nat) {fs : List Fl} (h : Rise Fl.name fs) : usedF (rollS size last fs) = usedF fs ∧ (rollS size last fs).length = fs.length ∧ segBytes (rollS size last fs) = segBytes fs := by
  unfold rollS
  split
  · exact ⟨(used_sync h _).1, (used_sync h _).2, seg_sync h _⟩
  · exact ⟨rfl, rfl, rfl⟩
/-- a log to which some payloads were appended -/
structure Grown (fs : List Fl) (last i : Nat) : Prop where
  low : 1 ≤ last
  top : last ≤ i + 1
  used : usedF fs ≤ 53 * i
  many : fs.length ≤ i
  all : ∀ m, okN m → (lookBy Fl.name (segL m) fs).isSome = true → m ≤ last
theorem Grown.next {fs : List Fl} {last i : Nat} (h : Grown fs last i) (hr : Rise Fl.name fs) (size : Nat) {b : List UInt8} (hb : b.length ≤ 40) (hi : i ≤ 1000) :
    Grown (appS size last fs b) (lastS size last fs) (i + 1) ∧ segBytes (appS size last fs b) = segBytes fs + (b.length + 13) := by
  obtain ⟨l1, l2⟩ := last_le size last fs
  have hok : okN (lastS size last fs) := ⟨by have := h.low; omega, by have := h.top; omega⟩
  obtain ⟨u1, u2, u3⟩ := used_roll size last hr
  have hr2 := rise_roll size last hr
  obtain ⟨v1, v2⟩ := used_app hr2 (segL (lastS size last fs)) (putL b)
  rw [putL_len] at v1
  have h1 := h.top
  have h2 := h.used
  have h3 := h.many
  refine ⟨⟨hok.1, by omega, ?_, ?_, fun m hm hs => ?_⟩, ?_⟩
  · unfold appS; omega
  · unfold appS; omega
  · unfold appS at hs
    rw [look_app hr2] at hs
    by_cases e : segL m = segL (lastS size last fs)
    · exact Nat.le_of_eq (seg_inj hm hok e)
    · rw [if_neg e, (is_roll size last hr _).1] at hs
      have := h.all m hm hs
      omega
  · unfold appS
    rw [seg_app hr2 hok, putL_len, u3]
end Go.Proofs.YtohnhboeipckjaaGreatDoor
