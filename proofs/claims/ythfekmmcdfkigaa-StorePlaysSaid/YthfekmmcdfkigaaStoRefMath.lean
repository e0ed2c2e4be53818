/-
  The document's rows of files: cells, places, and what stands where.
  Conditions: none.
-/
import Derived.Test.YthfekmmcdfkigaaStoRun
namespace Go.Proofs.Ythfekmmcdfkigaa
open Go.RowKit

def str (l : List UInt8) : ByteArray := ⟨l.toArray⟩
theorem str_data (l : List UInt8) : (str l).data.toList = l := rfl
theorem str_list (l : List UInt8) : (str l).toList = l := by rw [ByteArray.toList_eq]; rfl
theorem str_size (l : List UInt8) : (str l).size = l.length := rfl
theorem str_of (s : ByteArray) : str s.data.toList = s := rfl
/-- a file's cells -/
def fileC (f : Fl) : List Value := [.string (str f.name), .string (str f.bs), .int .i64 (f.safe : Int), .bool f.stays]
def cellsF (fs : List Fl) : List Value := fs.flatMap fileC
theorem cellsF_cons (f : Fl) (fs : List Fl) : cellsF (f :: fs) = fileC f ++ cellsF fs := rfl
theorem cellsF_app (a b : List Fl) : cellsF (a ++ b) = cellsF a ++ cellsF b := by unfold cellsF; rw [List.flatMap_append]
theorem cellsF_len : ∀ fs : List Fl, (cellsF fs).length = fs.length * 4
  | [] => rfl
  | f :: fs => by rw [cellsF_cons, List.length_append, cellsF_len fs, List.length_cons]; simp [fileC]; omega
theorem cellsF_at : ∀ (fs : List Fl) (k j : Nat) (h : k < fs.length), j < 4 → (cellsF fs)[k * 4 + j]? = (fileC fs[k])[j]?
  | f :: fs, 0, j, _, hj => by
    rw [cellsF_cons, List.getElem?_append_left (by simp [fileC]; omega)]
    simp
  | f :: fs, k + 1, j, h, hj => by
    have e : (k + 1) * 4 + j = (fileC f).length + (k * 4 + j) := by simp [fileC]; omega
    rw [cellsF_cons, e, List.getElem?_append_right (by omega), Nat.add_sub_cancel_left, cellsF_at fs k j (by simpa using h) hj]
    rfl
theorem cellsF_one (fs : List Fl) : ∀ u ∈ cellsF fs, u.oneCell' = true := by
  intro u hu
  obtain ⟨f, _, hf⟩ := List.mem_flatMap.1 hu
  simp only [fileC, List.mem_cons, List.not_mem_nil, or_false] at hf
  rcases hf with rfl | rfl | rfl | rfl <;> rfl
theorem cellsF_take (fs : List Fl) (k : Nat) : cellsF (fs.take k) = (cellsF fs).take (k * 4) := by
  induction fs generalizing k with
  | nil => simp [cellsF]
  | cons f fs ih =>
    cases k with
    | zero => simp [cellsF]
    | succ k =>
      have e : (k + 1) * 4 = (fileC f).length + k * 4 := by simp [fileC]; omega
      rw [List.take_succ_cons, cellsF_cons, cellsF_cons, ih, e, List.take_length_add_append]
theorem cellsF_drop (fs : List Fl) (k : Nat) : cellsF (fs.drop k) = (cellsF fs).drop (k * 4) := by
  induction fs generalizing k with
  | nil => simp [cellsF]
  | cons f fs ih =>
    cases k with
    | zero => simp
    | succ k =>
      have e : (k + 1) * 4 = (fileC f).length + k * 4 := by simp [fileC]; omega
      rw [List.drop_succ_cons, cellsF_cons, ih, e, List.drop_length_add_append]

/-- the slice at A has the files fs, below block B -/
def Fils (w : World) (B : Nat) (A : Option Addr) (fs : List Fl) : Prop :=
  fs ≠ [] → ∃ b o, A = some ⟨b, o, none⟩ ∧ b < B ∧ ∀ j v, (cellsF fs)[j]? = some v → w.cell? ⟨b, o + j, none⟩ = some v
theorem Fils.none (w : World) (B : Nat) (A : Option Addr) : Fils w B A [] := fun h => absurd rfl h
theorem Fils.below {w w' : World} {B : Nat} {A : Option Addr} {fs : List Fl} (h : Fils w B A fs) (hb : Below B w w') : Fils w' B A fs := fun hl => by
  obtain ⟨b, o, e, hlt, hc⟩ := h hl
  exact ⟨b, o, e, hlt, fun j v hv => (hb.cell (p := ⟨b, o + j, Option.none⟩) hlt).trans (hc j v hv)⟩
theorem Fils.more {w : World} {B B' : Nat} {A : Option Addr} {fs : List Fl} (h : Fils w B A fs) (hB : B ≤ B') : Fils w B' A fs := fun hl => by
  obtain ⟨b, o, e, hlt, hc⟩ := h hl
  exact ⟨b, o, e, by omega, hc⟩
theorem Fils.take {w : World} {B : Nat} {A : Option Addr} {fs : List Fl} (h : Fils w B A fs) (k : Nat) : Fils w B A (fs.take k) := fun hl => by
  obtain ⟨b, o, e, hlt, hc⟩ := h (by rintro rfl; simp at hl)
  refine ⟨b, o, e, hlt, fun j v hv => hc j v ?_⟩
  rw [cellsF_take] at hv
  rw [List.getElem?_take] at hv
  split at hv
  · exact hv
  · cases hv
theorem Fils.drop {w : World} {B : Nat} {A : Option Addr} {fs : List Fl} (h : Fils w B A fs) {k c : Nat} (hc : fs.length ≤ c) : Fils w B (if c = k then A else A.map (·.add (k * 4))) (fs.drop k) := fun hl => by
  have hk : k < fs.length := by
    rcases Nat.lt_or_ge k fs.length with h1 | h1
    · exact h1
    · exact absurd (List.drop_eq_nil_of_le h1) hl
  obtain ⟨b, o, rfl, hlt, hcell⟩ := h (by rintro rfl; simp at hk)
  rw [if_neg (by omega)]
  refine ⟨b, o + k * 4, ?_, hlt, fun j v hv => ?_⟩
  · simp only [Option.map_some, Option.some.injEq]
    unfold Addr.add
    split <;> simp_all
  · rw [Nat.add_assoc]
    refine hcell (k * 4 + j) v ?_
    rw [cellsF_drop, List.getElem?_drop] at hv
    exact hv
/-- its four cells -/
theorem Fils.four {w : World} {B : Nat} {A : Option Addr} {fs : List Fl} (h : Fils w B A fs) {k : Nat} (hk : k < fs.length) : ∃ b o, A = some ⟨b, o, Option.none⟩ ∧ b < B ∧
    w.cell? ⟨b, o + k * 4, Option.none⟩ = some (.string (str fs[k].name)) ∧ w.cell? ⟨b, o + k * 4 + 1, Option.none⟩ = some (.string (str fs[k].bs)) ∧ w.cell? ⟨b, o + k * 4 + 2, Option.none⟩ = some (.int .i64 (fs[k].safe : Int)) ∧ w.cell? ⟨b, o + k * 4 + 3, Option.none⟩ = some (.bool fs[k].stays) := by
  obtain ⟨b, o, e, hlt, hc⟩ := h (by rintro rfl; simp at hk)
  have hx : ∀ j v, j < 4 → (fileC fs[k])[j]? = some v → w.cell? ⟨b, o + k * 4 + j, Option.none⟩ = some v := fun j v hj hv => by
    rw [Nat.add_assoc]
    exact hc _ v ((cellsF_at fs k j hk hj).trans hv)
  exact ⟨b, o, e, hlt, hx 0 _ (by omega) rfl, hx 1 _ (by omega) rfl, hx 2 _ (by omega) rfl, hx 3 _ (by omega) rfl⟩
theorem Fils.own {w : World} {base : Nat} {e : TypeId} {A : Option Addr} {n c : Nat} {fs : List Fl} (h : w.ownsRow base e 4 (.slice A n c) n (cellsF fs)) : Fils w w.heap.size A fs := fun hl => by
  have hn : n = fs.length := by have := h.1; rw [cellsF_len] at this; omega
  rcases h.2 with ⟨h1, h0⟩ | ⟨g, cap, cur, h1, _, hg, _⟩
  · exact absurd (List.eq_nil_of_length_eq_zero (by omega)) hl
  · injection h1 with h1 _ h2
    subst h1
    subst h2
    refine ⟨g, 0, rfl, (Array.getElem?_eq_some_iff.1 hg).1, fun j v hv => ?_⟩
    have hj : j < n * 4 := by
      rcases Nat.lt_or_ge j (n * 4) with h1 | h1
      · exact h1
      · rw [List.getElem?_eq_none (by rw [cellsF_len]; omega)] at hv; cases hv
    rw [Nat.zero_add, h.cellAt j hj, hv]

/-- where a name stands among files, and whether it is there -/
structure Pos (fs : List Fl) (x : List UInt8) (k : Nat) (b : Bool) : Prop where
  le : k ≤ fs.length
  less : ∀ j (h : j < fs.length), j < k → fs[j].name < x
  is : b = true → ∃ h : k < fs.length, fs[k].name = x
  no : b = false → ∀ h : k < fs.length, ¬ fs[k].name < x ∧ fs[k].name ≠ x
theorem pos_ex : ∀ (fs : List Fl) (x : List UInt8), ∃ k b, Pos fs x k b
  | [], x => ⟨0, false, Nat.le_refl _, fun j h => by simp at h, (fun h => by cases h), fun _ h => by simp at h⟩
  | q :: r, x => by
    rcases nm_tri q.name x with h | h | h
    · obtain ⟨k, b, hp⟩ := pos_ex r x
      refine ⟨k + 1, b, by have := hp.le; simpa using this, fun j hj hjk => ?_, fun hb => ?_, fun hb hk => ?_⟩
      · cases j with
        | zero => exact h
        | succ j => have := hp.less j (by simpa using hj) (by omega); simpa using this
      · obtain ⟨h1, h2⟩ := hp.is hb
        exact ⟨by simpa using h1, by simpa using h2⟩
      · have := hp.no hb (by simpa using hk)
        simpa using this
    · exact ⟨0, true, Nat.zero_le _, fun j _ hj => absurd hj (by omega), fun _ => ⟨by simp, h⟩, (fun hb => by cases hb)⟩
    · exact ⟨0, false, Nat.zero_le _, fun j _ hj => absurd hj (by omega), (fun hb => by cases hb), fun _ _ => ⟨fun hh => nm_irr _ (nm_tr h hh), fun e => nm_irr x (by have := h; simp only [List.getElem_cons_zero] at e; rw [e] at this; exact this)⟩⟩
theorem pos_one {fs : List Fl} {x : List UInt8} {k k' : Nat} {b b' : Bool} (h : Pos fs x k b) (h' : Pos fs x k' b') : k = k' ∧ b = b' := by
  have no : ∀ {k k' : Nat} {b b' : Bool}, Pos fs x k b → Pos fs x k' b' → ¬ k < k' := by
    intro k k' b b' h h' hlt
    have hk : k < fs.length := by have := h'.le; omega
    have h1 := h'.less k hk hlt
    cases b with
    | true => obtain ⟨_, h2⟩ := h.is rfl; rw [h2] at h1; exact nm_irr _ h1
    | false => exact (h.no rfl hk).1 h1
  have e : k = k' := by have := no h h'; have := no h' h; omega
  subst e
  refine ⟨rfl, ?_⟩
  cases b <;> cases b'
  · rfl
  · obtain ⟨h1, h2⟩ := h'.is rfl; exact absurd h2 (h.no rfl h1).2
  · obtain ⟨h1, h2⟩ := h.is rfl; exact absurd h2 (h'.no rfl h1).2
  · rfl
theorem pos_put : ∀ {fs : List Fl} {x : List UInt8} {k : Nat} {b : Bool} {f : Fl}, Pos fs x k b → f.name = x → putBy Fl.name f fs = fs.take k ++ f :: fs.drop (if b then k + 1 else k)
  | [], x, k, b, f, h, _ => by
    have : k = 0 := by have := h.le; simpa using this
    subst this
    cases b <;> simp [putBy]
  | q :: r, x, 0, b, f, h, hf => by
    cases b with
    | true =>
      obtain ⟨_, h1⟩ := h.is rfl
      simp only [List.getElem_cons_zero] at h1
      unfold putBy
      rw [h1, hf, if_neg (nm_irr _), if_pos rfl]
      simp
    | false =>
      obtain ⟨h1, h2⟩ := h.no rfl (by simp)
      simp only [List.getElem_cons_zero] at h1 h2
      unfold putBy
      rw [hf, if_neg h1, if_neg h2]
      simp
  | q :: r, x, k + 1, b, f, h, hf => by
    have h0 := h.less 0 (by simp) (by omega)
    simp only [List.getElem_cons_zero] at h0
    have ih := pos_put (fs := r) (x := x) (k := k) (b := b) (f := f) ⟨by have := h.le; simpa using this, fun j hj hjk => by have := h.less (j + 1) (by simpa using hj) (by omega); simpa using this, fun hb => by
      obtain ⟨h1, h2⟩ := h.is hb
      exact ⟨by simpa using h1, by simpa using h2⟩, fun hb hk => by have := h.no hb (by simpa using hk); simpa using this⟩ hf
    unfold putBy
    rw [hf, if_pos h0, ih]
    cases b <;> simp
theorem pos_look {fs : List Fl} {x : List UInt8} {k : Nat} {b : Bool} (h : Pos fs x k b) (hr : Rise Fl.name fs) : lookBy Fl.name x fs = if b then fs[k]? else none := by
  cases b with
  | true =>
    obtain ⟨h1, h2⟩ := h.is rfl
    rw [← h2, lookBy_mem hr (List.getElem_mem h1)]
    simp [h1]
  | false =>
    cases hl : lookBy Fl.name x fs with
    | none => rfl
    | some f =>
      obtain ⟨hm, hn⟩ := lookBy_some hl
      obtain ⟨j, hj, he⟩ := List.getElem_of_mem hm
      exfalso
      rcases Nat.lt_or_ge j k with hjk | hjk
      · have := h.less j hj hjk
        rw [he, hn] at this
        exact nm_irr _ this
      · have hkl : k < fs.length := by omega
        obtain ⟨h1, h2⟩ := h.no rfl hkl
        rcases Nat.eq_or_lt_of_le hjk with e | hlt
        · subst e; exact h2 (by rw [he]; exact hn)
        · have := List.pairwise_iff_getElem.1 hr k j hkl hj hlt
          rw [he, hn] at this
          exact h1 this
theorem pos_del {fs : List Fl} {x : List UInt8} {k : Nat} (h : Pos fs x k true) (hr : Rise Fl.name fs) : delBy Fl.name x fs = fs.take k ++ fs.drop (k + 1) := by
  obtain ⟨h1, h2⟩ := h.is rfl
  have e : fs = fs.take k ++ fs[k] :: fs.drop (k + 1) := by rw [← List.drop_eq_getElem_cons h1, List.take_append_drop]
  have hr' := hr
  rw [e] at hr'
  have := del_mid hr'
  rw [← e, h2] at this
  exact this
end Go.Proofs.Ythfekmmcdfkigaa
