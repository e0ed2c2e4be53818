/-
  The plain mathematics of a store: files by rising names, put, taken away, looked up; what each deed and a boot leave.
  Conditions: none.
-/
import Derived.Lib.Hide
import Derived.Test.YtohnhboeipckjaaGreatDoorLabMath
namespace Go.Proofs.YtohnhboeipckjaaGreatDoor

section
variable {α β : Type} (nm : α → List UInt8)

/-- a row with one more, or another one, at its name's place -/
def putBy (f : α) : List α → List α
  | [] => [f]
  | a :: r => if nm a < nm f then a :: putBy f r else if nm a = nm f then f :: r else f :: a :: r
/-- a row without a name -/
def delBy (x : List UInt8) (l : List α) : List α := l.filter fun a => decide (nm a ≠ x)
/-- what a row has at a name -/
def lookBy (x : List UInt8) (l : List α) : Option α := l.find? fun a => decide (nm a = x)
/-- its names rise -/
def Rise (l : List α) : Prop := l.Pairwise fun a b => nm a < nm b

variable {nm}
theorem nm_tri (x y : List UInt8) : x < y ∨ x = y ∨ y < x := by
  rcases List.le_total x y with h | h
  · by_cases e : x = y
    · exact .inr (.inl e)
    · exact .inl (Classical.byContradiction fun hn => e (List.le_antisymm h hn))
  · by_cases e : x = y
    · exact .inr (.inl e)
    · exact .inr (.inr (Classical.byContradiction fun hn => e (List.le_antisymm hn h)))
theorem nm_irr (x : List UInt8) : ¬ x < x := List.lt_irrefl x
theorem nm_tr {x y z : List UInt8} (h : x < y) (k : y < z) : x < z := List.lt_trans h k

theorem delBy_same {x : List UInt8} {l : List α} (h : ∀ a ∈ l, nm a ≠ x) : delBy nm x l = l := List.filter_eq_self.2 fun a ha => by simpa using h a ha
theorem putBy_perm {f : α} : ∀ {l : List α}, Rise nm l → (putBy nm f l).Perm (f :: delBy nm (nm f) l)
  | [], _ => .refl _
  | a :: r, h => by
    obtain ⟨h1, h2⟩ := List.pairwise_cons.1 h
    unfold putBy
    by_cases c : nm a < nm f
    · rw [if_pos c]
      have hne : nm a ≠ nm f := fun e => nm_irr _ (e ▸ c)
      have e1 : delBy nm (nm f) (a :: r) = a :: delBy nm (nm f) r := by simp [delBy, hne]
      rw [e1]
      exact ((putBy_perm h2).cons a).trans (List.Perm.swap f a _)
    · rw [if_neg c]
      by_cases e : nm a = nm f
      · rw [if_pos e]
        have e1 : delBy nm (nm f) (a :: r) = r := by
          have : delBy nm (nm f) (a :: r) = delBy nm (nm f) r := by simp [delBy, e]
          rw [this]
          exact delBy_same fun b hb hbe => nm_irr (nm a) (by have := h1 b hb; rw [hbe, ← e] at this; exact this)
        rw [e1]
      · rw [if_neg e]
        have hlt : nm f < nm a := (nm_tri (nm f) (nm a)).resolve_right (fun h => h.elim (fun h => e h.symm) c)
        rw [delBy_same (l := a :: r)]
        intro b hb
        rcases List.mem_cons.1 hb with rfl | hb
        · exact e
        · intro hbe
          exact nm_irr (nm f) (nm_tr hlt (hbe ▸ h1 b hb))
theorem mem_putBy {f b : α} {l : List α} (h : Rise nm l) : b ∈ putBy nm f l ↔ b = f ∨ (b ∈ l ∧ nm b ≠ nm f) := by
  rw [(putBy_perm h).mem_iff]
  simp [delBy]
theorem putBy_rise {f : α} : ∀ {l : List α}, Rise nm l → Rise nm (putBy nm f l)
  | [], _ => by simp [putBy, Rise]
  | a :: r, h => by
    obtain ⟨h1, h2⟩ := List.pairwise_cons.1 h
    unfold putBy
    by_cases c : nm a < nm f
    · rw [if_pos c]
      refine List.pairwise_cons.2 ⟨fun b hb => ?_, putBy_rise h2⟩
      rcases (mem_putBy h2).1 hb with rfl | ⟨hb, _⟩
      · exact c
      · exact h1 b hb
    · rw [if_neg c]
      by_cases e : nm a = nm f
      · rw [if_pos e]
        exact List.pairwise_cons.2 ⟨fun b hb => e ▸ h1 b hb, h2⟩
      · rw [if_neg e]
        have hlt : nm f < nm a := (nm_tri (nm f) (nm a)).resolve_right (fun h => h.elim (fun h => e h.symm) c)
        refine List.pairwise_cons.2 ⟨fun b hb => ?_, h⟩
        rcases List.mem_cons.1 hb with rfl | hb
        · exact hlt
        · exact nm_tr hlt (h1 b hb)
theorem delBy_rise {x : List UInt8} {l : List α} (h : Rise nm l) : Rise nm (delBy nm x l) := List.Pairwise.filter _ h
theorem mem_delBy {x : List UInt8} {l : List α} {b : α} : b ∈ delBy nm x l ↔ b ∈ l ∧ nm b ≠ x := by simp [delBy]
theorem lookBy_some {x : List UInt8} {l : List α} {a : α} (h : lookBy nm x l = some a) : a ∈ l ∧ nm a = x :=
  ⟨List.mem_of_find?_eq_some h, by simpa using List.find?_some h⟩
theorem lookBy_none {x : List UInt8} {l : List α} (h : lookBy nm x l = none) : ∀ a ∈ l, nm a ≠ x := fun a ha => by simpa using List.find?_eq_none.1 h a ha
theorem rise_eq : ∀ {l : List α}, Rise nm l → ∀ {a b : α}, a ∈ l → b ∈ l → nm a = nm b → a = b
  | [], _, _, _, ha, _, _ => by simp at ha
  | c :: r, h, a, b, ha, hb, e => by
    obtain ⟨h1, h2⟩ := List.pairwise_cons.1 h
    rcases List.mem_cons.1 ha with ea | ha'
    · rcases List.mem_cons.1 hb with eb | hb'
      · rw [ea, eb]
      · exact absurd (h1 b hb') (by rw [← ea, e]; exact nm_irr _)
    · rcases List.mem_cons.1 hb with eb | hb'
      · exact absurd (h1 a ha') (by rw [← eb, e]; exact nm_irr _)
      · exact rise_eq h2 ha' hb' e
theorem lookBy_mem {l : List α} (h : Rise nm l) {a : α} (ha : a ∈ l) : lookBy nm (nm a) l = some a := by
  cases e : lookBy nm (nm a) l with
  | none => exact absurd rfl (lookBy_none e a ha)
  | some b => obtain ⟨hb, hn⟩ := lookBy_some e; rw [rise_eq h hb ha hn]

theorem map_putBy {nm' : β → List UInt8} {g : α → β} (hg : ∀ a, nm' (g a) = nm a) (f : α) : ∀ l : List α, (putBy nm f l).map g = putBy nm' (g f) (l.map g)
  | [] => rfl
  | a :: r => by
    unfold putBy
    simp only [List.map_cons, hg]
    split
    · simp [map_putBy hg f r]
    · split <;> simp
theorem map_delBy {nm' : β → List UInt8} {g : α → β} (hg : ∀ a, nm' (g a) = nm a) (x : List UInt8) (l : List α) : (delBy nm x l).map g = delBy nm' x (l.map g) := by
  unfold delBy
  rw [List.filter_map]
  congr 1
  apply List.filter_congr
  intro a _
  simp [hg]
theorem map_lookBy {nm' : β → List UInt8} {g : α → β} (hg : ∀ a, nm' (g a) = nm a) (x : List UInt8) (l : List α) : lookBy nm' x (l.map g) = (lookBy nm x l).map g := by
  unfold lookBy
  rw [List.find?_map]
  congr 2
  funext a
  simp [hg]
theorem map_rise {nm' : β → List UInt8} {g : α → β} (hg : ∀ a, nm' (g a) = nm a) {l : List α} : Rise nm' (l.map g) ↔ Rise nm l := by
  unfold Rise
  rw [List.pairwise_map]
  simp [hg]
theorem perm_sum {l l' : List Nat} (h : l.Perm l') : l.sum = l'.sum := by
  induction h with
  | nil => rfl
  | cons x _ ih => simp [ih]
  | swap x y l => simp; omega
  | trans _ _ ih1 ih2 => rw [ih1, ih2]
/-- a sum over a row, where one is put -/
theorem sum_putBy (m : α → Nat) {f : α} {l : List α} (h : Rise nm l) : ((putBy nm f l).map m).sum + ((lookBy nm (nm f) l).map m).getD 0 = (l.map m).sum + m f := by
  rw [perm_sum ((putBy_perm (f := f) h).map m)]
  have key : ∀ l : List α, Rise nm l → ((delBy nm (nm f) l).map m).sum + ((lookBy nm (nm f) l).map m).getD 0 = (l.map m).sum := by
    intro l
    induction l with
    | nil => intro _; simp [delBy, lookBy]
    | cons a r ih =>
      intro h
      obtain ⟨h1, h2⟩ := List.pairwise_cons.1 h
      by_cases e : nm a = nm f
      · have e1 : delBy nm (nm f) (a :: r) = r := by
          have : delBy nm (nm f) (a :: r) = delBy nm (nm f) r := by simp [delBy, e]
          rw [this]
          exact delBy_same fun b hb hbe => nm_irr (nm a) (by have := h1 b hb; rw [hbe, ← e] at this; exact this)
        have e2 : lookBy nm (nm f) (a :: r) = some a := by simp [lookBy, e]
        rw [e1, e2]
        simp
        omega
      · have e1 : delBy nm (nm f) (a :: r) = a :: delBy nm (nm f) r := by simp [delBy, e]
        have e2 : lookBy nm (nm f) (a :: r) = lookBy nm (nm f) r := by simp [lookBy, e]
        rw [e1, e2]
        simp
        have := ih h2
        omega
  have := key l h
  simp
  omega
theorem sum_delBy (m : α → Nat) (x : List UInt8) (l : List α) : ((delBy nm x l).map m).sum ≤ (l.map m).sum := by
  induction l with
  | nil => simp [delBy]
  | cons a r ih =>
    by_cases e : nm a = x
    · have e1 : delBy nm x (a :: r) = delBy nm x r := by simp [delBy, e]
      rw [e1]; simp; omega
    · have e1 : delBy nm x (a :: r) = a :: delBy nm x r := by simp [delBy, e]
      rw [e1]; simp; omega
end

/-- a file: its bytes, how many of the first are safe, whether it stays -/
structure Fl where
  name : List UInt8
  bs : List UInt8
  safe : Nat
  stays : Bool
/-- a store -/
structure St where
  fs : List Fl
  cap : Nat
  fuse : Nat
  down : Bool
def usedF (l : List Fl) : Nat := (l.map fun f => f.bs.length).sum
/-- what a store always keeps -/
structure St.Ok (s : St) : Prop where
  rise : Rise Fl.name s.fs
  safe : ∀ f ∈ s.fs, f.safe ≤ f.bs.length
  used : usedF s.fs ≤ s.cap
  cap : s.cap ≤ 16777216
  many : s.fs.length ≤ 256
  fuse : s.fuse ≤ 9223372036854775807
  good : ∀ f ∈ s.fs, nameB f.name = true ∧ f.name.length ≤ 1073741824
/-- a deed is counted -/
def St.deed (s : St) : St × Nat := if s.fuse = 1 then ({ s with down := true, fuse := 0 }, 12) else ({ s with fuse := s.fuse - 1 }, 0)
def St.crash (s : St) : St := { s with down := true, fuse := 0 }
def St.setFuse (s : St) (n : Int) : St := { s with fuse := n.toNat }
def newF (x : List UInt8) : Fl := { name := x, bs := [], safe := 0, stays := false }
/-- what is wrong with putting so many bytes behind a file's -/
def St.takes (s : St) (good : Bool) (x : List UInt8) (k : Nat) : Nat :=
  if s.down then 12 else if !good then 10 else if (lookBy Fl.name x s.fs).isNone && decide (256 ≤ s.fs.length) then 8 else if s.cap - usedF s.fs < k then 13 else 0
def St.append (s : St) (good : Bool) (x b : List UInt8) : St × Nat :=
  if s.takes good x b.length = 0 then
    let f := (lookBy Fl.name x s.fs).getD (newF x)
    St.deed { s with fs := putBy Fl.name { f with bs := f.bs ++ b } s.fs }
  else (s, s.takes good x b.length)
/-- a file's deed that is not done where the power goes -/
def St.doing (s : St) (g : St → St) : St × Nat := if s.fuse = 1 then (s.crash, 12) else (g { s with fuse := s.fuse - 1 }, 0)
def sureF (f : Fl) (n : Nat) : Fl := { f with bs := f.bs.take n, safe := n, stays := true }
def St.sync (s : St) (x : List UInt8) : St × Nat :=
  if s.down then (s, 12) else
    match lookBy Fl.name x s.fs with
    | none => (s, 7)
    | some f => s.doing fun s => { s with fs := putBy Fl.name { f with safe := f.bs.length, stays := true } s.fs }
def St.trunc (s : St) (x : List UInt8) (n : Int) : St × Nat :=
  if s.down then (s, 12) else
    match lookBy Fl.name x s.fs with
    | none => (s, 7)
    | some f => if n < 0 ∨ f.bs.length < n then (s, 1) else s.doing fun s => { s with fs := putBy Fl.name { f with bs := f.bs.take n.toNat, safe := min f.safe n.toNat } s.fs }
def St.remove (s : St) (x : List UInt8) : St × Nat :=
  if s.down then (s, 12) else
    match lookBy Fl.name x s.fs with
    | none => (s, 7)
    | some _ => s.doing fun s => { s with fs := delBy Fl.name x s.fs }
/-- how many bytes of a file a crash leaves -/
def leftF (f : Fl) (told : Int) : Nat := f.safe + min told.toNat (f.bs.length - f.safe)
def keptF (f : Fl) (told : Int) : Option Fl := if leftF f told = 0 ∧ f.stays = false then none else some (sureF f (leftF f told))
/-- what a boot leaves: of each file what is told -/
def bootF : List Fl → List Int → List Fl
  | [], _ => []
  | f :: r, k => (keptF f (k.headD 0)).toList ++ bootF r k.tail
def St.boot (s : St) (keep : List Int) : St × Nat := if s.down then ({ s with fs := bootF s.fs keep, down := false }, 0) else (s, 9)

theorem used_take {f : Fl} {s : St} (hf : f ∈ s.fs) : f.bs.length ≤ usedF s.fs := by
  unfold usedF
  have : ∀ l : List Nat, ∀ x ∈ l, x ≤ l.sum := by
    intro l
    induction l with
    | nil => simp
    | cons a r ih =>
      intro x hx
      rcases List.mem_cons.1 hx with rfl | hx
      · simp
      · have := ih x hx; simp; omega
  exact this _ _ (List.mem_map.2 ⟨f, hf, rfl⟩)
theorem length_put {s : St} (h : s.Ok) (f : Fl) : (putBy Fl.name f s.fs).length = if (lookBy Fl.name f.name s.fs).isNone then s.fs.length + 1 else s.fs.length := by
  have := sum_putBy (fun _ : Fl => 1) (f := f) h.rise
  have e : ∀ l : List Fl, (l.map fun _ : Fl => 1).sum = l.length := by intro l; induction l <;> simp_all; omega
  rw [e, e] at this
  cases hl : lookBy Fl.name f.name s.fs <;> simp [hl] at this ⊢ <;> omega
end Go.Proofs.YtohnhboeipckjaaGreatDoor
