/-
  Plain mathematics of states: which are right, what an event leaves; what is right stays right. It needs nothing of the program.
  Conditions: none.
-/
import Derived.Test.YteejocnogpaifaaGreatDoorMrg2
import Derived.Test.YteejocnogpaifaaGreatDoorCodEv
import Derived.Sort.Walk0

namespace Go.Proofs.YteejocnogpaifaaGreatDoor.Tt
open Go.Proofs.YteejocnogpaifaaGreatDoor.Bo (P)
open Go.Proofs.YteejocnogpaifaaGreatDoor.Df
open Go.Proofs.YteejocnogpaifaaGreatDoor.Sa (Sg Cm Rp Ac cm0 GoodS goodB overB refE emitA replyA numA doA beginS lateA expireA cancelA retryA skipA abandonA RightD right_iff)
open Go.Proofs.YteejocnogpaifaaGreatDoor.Co (Ev goodE Mod)

/-- a definition -/
structure Dm where
  nm : ByteArray
  dl : Int
  ss : List Stp
/-- a state -/
structure Ms where
  ds : List Dm
  gs : List Sg
  nx : Int

/-! ### The first of a row -/
section
variable {α : Type} {p : α → Bool} {l : List α}
/-- its place; -1: there is none -/
def idx (p : α → Bool) (l : List α) : Int := if l.findIdx p < l.length then (l.findIdx p : Int) else -1
theorem fidx_at {i : Nat} {a : α} (h : l[i]? = some a) (hp : p a = true) (hn : ∀ j, j < i → ∀ b, l[j]? = some b → p b = false) : l.findIdx p = i := by
  obtain ⟨hi, rfl⟩ := List.getElem?_eq_some_iff.1 h
  rw [List.findIdx_eq hi]
  exact ⟨hp, fun j hj => hn j hj _ (List.getElem?_eq_getElem (by omega))⟩
theorem fidx_end (hn : ∀ (j : Nat) (b : α), l[j]? = some b → p b = false) : l.findIdx p = l.length := by
  rw [List.findIdx_eq_length]
  intro x hx
  obtain ⟨j, hj⟩ := List.mem_iff_getElem?.1 hx
  exact hn j x hj
theorem idx_at {i : Nat} {a : α} (h : l[i]? = some a) (hp : p a = true) (hn : ∀ j, j < i → ∀ b, l[j]? = some b → p b = false) : idx p l = (i : Int) := by
  have hi : i < l.length := (List.getElem?_eq_some_iff.1 h).1
  unfold idx
  rw [fidx_at h hp hn, if_pos hi]
theorem idx_end (hn : ∀ (j : Nat) (b : α), l[j]? = some b → p b = false) : idx p l = -1 := by
  unfold idx
  rw [fidx_end hn, if_neg (Nat.lt_irrefl _)]
theorem idx_cases (p : α → Bool) (l : List α) : (idx p l = -1 ∧ ∀ a ∈ l, p a = false) ∨ ∃ (i : Nat) (a : α), idx p l = (i : Int) ∧ l[i]? = some a ∧ p a = true ∧ i < l.length ∧ ∀ j, j < i → ∀ b, l[j]? = some b → p b = false := by
  unfold idx
  by_cases h : l.findIdx p < l.length
  · rw [if_pos h]
    refine .inr ⟨l.findIdx p, l[l.findIdx p], rfl, List.getElem?_eq_getElem h, List.findIdx_getElem, h, fun j hj b hb => ?_⟩
    obtain ⟨hj', rfl⟩ := List.getElem?_eq_some_iff.1 hb
    simpa using List.not_of_lt_findIdx hj
  · rw [if_neg h]
    refine .inl ⟨rfl, fun a ha => ?_⟩
    have hle : l.findIdx p ≤ l.length := List.findIdx_le_length
    have he : l.findIdx p = l.length := by omega
    exact List.findIdx_eq_length.1 he a ha
theorem idx_lt (p : α → Bool) (l : List α) : idx p l < l.length := by
  unfold idx
  split <;> omega
theorem idx_ge (p : α → Bool) (l : List α) : -1 ≤ idx p l := by
  unfold idx
  split <;> omega
theorem idx_map {β : Type} (f : β → α) (l : List β) : idx p (l.map f) = idx (fun b => p (f b)) l := by
  rcases idx_cases (fun b => p (f b)) l with ⟨h, hn⟩ | ⟨i, b, h, hb, hp, _, hn⟩
  · rw [h]
    refine idx_end fun j a ha => ?_
    rw [List.getElem?_map] at ha
    cases hj : l[j]? with
    | none => rw [hj] at ha; cases ha
    | some b =>
      rw [hj] at ha
      cases ha
      exact hn b (List.mem_of_getElem? hj)
  · rw [h]
    refine idx_at (a := f b) (by rw [List.getElem?_map, hb]; rfl) hp fun j hj a ha => ?_
    rw [List.getElem?_map] at ha
    cases hj2 : l[j]? with
    | none => rw [hj2] at ha; cases ha
    | some b2 =>
      rw [hj2] at ha
      cases ha
      exact hn j hj b2 hj2
end

/-! ### Which states are right -/
def ltB (a b : ByteArray) : Bool := decide (a.data.toList < b.data.toList)
theorem less_lt (a b : ByteArray) : Op.bytesLess a.toList b.toList = ltB a b := by
  unfold ltB
  rw [bytesLess_eq, ByteArray.toList_eq, ByteArray.toList_eq]
theorem lt_irr (a : ByteArray) : ltB a a = false := decide_eq_false (List.lt_irrefl _)
theorem lt_tr {a b c : ByteArray} (h : ltB a b = true) (k : ltB b c = true) : ltB a c = true :=
  decide_eq_true (List.lt_trans (of_decide_eq_true h) (of_decide_eq_true k))
theorem lt_tri {a b : ByteArray} (h : ltB a b = false) (hne : a ≠ b) : ltB b a = true := by
  have h' : ¬ a.data.toList < b.data.toList := of_decide_eq_false h
  have hne' : a.data.toList ≠ b.data.toList := fun e => hne (ByteArray.ext (Array.toList_inj.1 e))
  exact decide_eq_true (Classical.byContradiction fun hn => hne' (List.le_antisymm hn h'))
def named (x : ByteArray) (d : Dm) : Bool := decide (d.nm = x)
def numbered (x : Int) (s : Sg) : Bool := decide (s.id = x)
def findD (l : List Dm) (x : ByteArray) : Int := idx (named x) l
def findS (l : List Sg) (x : Int) : Int := idx (numbered x) l
def RiseD (l : List Dm) : Prop := l.Pairwise fun a b => ltB a.nm b.nm = true
def RiseS (l : List Sg) : Prop := l.Pairwise fun a b => a.id < b.id
/-- definitions that a state may have -/
structure OkD (l : List Dm) : Prop where
  few : l.length ≤ 64
  rise : RiseD l
  right : ∀ d ∈ l, RightD d.nm d.dl d.ss
/-- a saga that may be: its definition is there -/
def OkS (l : List Dm) (nx : Int) (s : Sg) : Prop := ∃ d ∈ l, d.nm = s.dn ∧ s.id < nx ∧ GoodS d.nm d.dl d.ss s
structure Ok (x : Ms) : Prop where
  nx : 0 ≤ x.nx
  ds : OkD x.ds
  rise : RiseS x.gs
  gs : ∀ s ∈ x.gs, OkS x.ds x.nx s
/-- and its numbers and texts are such as fit -/
structure Inv (x : Ms) : Prop where
  ok : Ok x
  mod : ∀ d ∈ x.ds, Mod d.nm d.ss
  tr : ∀ s ∈ x.gs, s.tr ≤ 9223372036854775807 ∧ s.id ≤ 9223372036854775807
theorem inv0 : Inv ⟨[], [], 0⟩ := ⟨⟨Int.le_refl _, ⟨by decide, List.Pairwise.nil, by simp⟩, List.Pairwise.nil, by simp⟩, by simp, by simp⟩

theorem riseD_uniq {l : List Dm} (h : RiseD l) {i j : Nat} {a b : Dm} (ha : l[i]? = some a) (hb : l[j]? = some b) (he : a.nm = b.nm) : i = j := by
  obtain ⟨hi, rfl⟩ := List.getElem?_eq_some_iff.1 ha
  obtain ⟨hj, rfl⟩ := List.getElem?_eq_some_iff.1 hb
  have hp := List.pairwise_iff_getElem.1 h
  rcases Nat.lt_trichotomy i j with c | c | c
  · have := hp i j hi hj c
    rw [he, lt_irr] at this; cases this
  · exact c
  · have := hp j i hj hi c
    rw [he, lt_irr] at this; cases this
theorem riseS_uniq {l : List Sg} (h : RiseS l) {i j : Nat} {a b : Sg} (ha : l[i]? = some a) (hb : l[j]? = some b) (he : a.id = b.id) : i = j := by
  obtain ⟨hi, rfl⟩ := List.getElem?_eq_some_iff.1 ha
  obtain ⟨hj, rfl⟩ := List.getElem?_eq_some_iff.1 hb
  have hp := List.pairwise_iff_getElem.1 h
  rcases Nat.lt_trichotomy i j with c | c | c
  · have := hp i j hi hj c
    omega
  · exact c
  · have := hp j i hj hi c
    omega
theorem findD_at {l : List Dm} (h : RiseD l) {i : Nat} {d : Dm} (hd : l[i]? = some d) : findD l d.nm = (i : Int) :=
  idx_at hd (decide_eq_true rfl) fun j hj b hb => decide_eq_false fun e => by have := riseD_uniq h hb hd e; omega
theorem findS_at {l : List Sg} (h : RiseS l) {i : Nat} {s : Sg} (hs : l[i]? = some s) : findS l s.id = (i : Int) :=
  idx_at hs (decide_eq_true rfl) fun j hj b hb => decide_eq_false fun e => by have := riseS_uniq h hb hs e; omega
theorem findD_mem {l : List Dm} (h : RiseD l) {d : Dm} (hd : d ∈ l) : ∃ i : Nat, findD l d.nm = (i : Int) ∧ l[i]? = some d := by
  obtain ⟨i, hi⟩ := List.mem_iff_getElem?.1 hd
  exact ⟨i, findD_at h hi, hi⟩

/-! ### What an event leaves -/
def beforeB (x : ByteArray) (d : Dm) : Bool := !ltB d.nm x
/-- where a definition of that name is to stand -/
def spot (l : List Dm) (x : ByteArray) : Nat := l.findIdx (beforeB x)
def insD (l : List Dm) (d : Dm) : List Dm := l.take (spot l d.nm) ++ d :: l.drop (spot l d.nm)
def dmOf (l : List Dm) (i : Int) : Dm := (l[i.toNat]?).getD ⟨⟨#[]⟩, 0, []⟩
def sgOf (l : List Sg) (i : Int) : Sg := (l[i.toNat]?).getD ⟨0, ⟨#[]⟩, 0, 0, 0, 0, false, 0, 0⟩
theorem dmOf_is {l : List Dm} {i : Nat} {d : Dm} (h : l[i]? = some d) : dmOf l (i : Int) = d := by unfold dmOf; rw [Int.toNat_natCast, h]; rfl
theorem sgOf_is {l : List Sg} {i : Nat} {d : Sg} (h : l[i]? = some d) : sgOf l (i : Int) = d := by unfold sgOf; rw [Int.toNat_natCast, h]; rfl
def defS (x : Ms) (v : Ev) : Ms × Int :=
  if 0 ≤ findD x.ds v.dn then (x, 6) else if 64 ≤ x.ds.length then (x, 8) else (⟨insD x.ds ⟨v.dn, v.dl, v.ss⟩, x.gs, x.nx⟩, 0)
def startS (x : Ms) (v : Ev) (lim : Int) : Ms × Int :=
  if findD x.ds v.nm < 0 then (x, 7) else if v.sg ≠ x.nx then (x, 1) else if lim ≤ x.gs.length ∨ 1125899906842624 ≤ x.nx then (x, 8)
  else (⟨x.ds, x.gs ++ [beginS v.nm v.sg v.now], x.nx + 1⟩, 0)
def forgetS (x : Ms) (id : Int) : Ms × Int :=
  if findS x.gs id < 0 then (x, 7) else if overB (sgOf x.gs (findS x.gs id)) = false then (x, 9)
  else (⟨x.ds, x.gs.eraseIdx (findS x.gs id).toNat, x.nx⟩, 0)
/-- the act of layer 14 that an event is -/
def acK (k : Int) : Int := if k = 2 then 0 else if k = 3 then 3 else k + 2
def actA (d : Dm) (s : Sg) (v : Ev) : Sg × Cm × Int := doA d.nm d.dl d.ss s ⟨acK v.k, v.now, v.r⟩
def actS (x : Ms) (v : Ev) : Ms × Cm × Int :=
  if findS x.gs v.sg < 0 then (x, cm0, 7)
  else
    let s := sgOf x.gs (findS x.gs v.sg)
    let r := actA (dmOf x.ds (findD x.ds s.dn)) s v
    (⟨x.ds, x.gs.set (findS x.gs v.sg).toNat r.1, x.nx⟩, r.2.1, r.2.2)
/-- of a state that is right -/
def doS (x : Ms) (v : Ev) (lim : Int) : Ms × Cm × Int :=
  if goodE v = false then (x, cm0, 3)
  else if v.k = 0 then ((defS x v).1, cm0, (defS x v).2)
  else if v.k = 1 then ((startS x v lim).1, cm0, (startS x v lim).2)
  else if v.k = 10 then ((forgetS x v.sg).1, cm0, (forgetS x v.sg).2)
  else actS x v

/-! ### What is right stays right -/
theorem spot_le (l : List Dm) (x : ByteArray) : spot l x ≤ l.length := List.findIdx_le_length
theorem spot_is {l : List Dm} {x : ByteArray} {k : Nat} (hk : k ≤ l.length) (hl : ∀ j, j < k → ∀ b, l[j]? = some b → ltB b.nm x = true) (he : ∀ b, l[k]? = some b → ltB b.nm x = false) : spot l x = k := by
  unfold spot
  rcases Nat.lt_or_ge k l.length with h | h
  · refine fidx_at (List.getElem?_eq_getElem h) ?_ fun j hj b hb => ?_
    · unfold beforeB
      rw [he _ (List.getElem?_eq_getElem h)]
      rfl
    · unfold beforeB
      rw [hl j hj b hb]
      rfl
  · have : k = l.length := by omega
    subst this
    refine fidx_end fun j b hb => ?_
    unfold beforeB
    rw [hl j (List.getElem?_eq_some_iff.1 hb).1 b hb]
    rfl
theorem insD_len (l : List Dm) (d : Dm) : (insD l d).length = l.length + 1 := by
  have := spot_le l d.nm
  unfold insD
  simp only [List.length_append, List.length_take, List.length_cons, List.length_drop]
  omega
theorem mem_insD {l : List Dm} {d a : Dm} : a ∈ insD l d ↔ a = d ∨ a ∈ l := by
  unfold insD
  rw [List.mem_append, List.mem_cons]
  have h : a ∈ l ↔ a ∈ l.take (spot l d.nm) ∨ a ∈ l.drop (spot l d.nm) := by
    rw [← List.mem_append, List.take_append_drop]
  rw [h]
  constructor
  · rintro (h | h | h)
    · exact .inr (.inl h)
    · exact .inl h
    · exact .inr (.inr h)
  · rintro (h | h | h)
    · exact .inr (.inl h)
    · exact .inl h
    · exact .inr (.inr h)
theorem insD_rise {l : List Dm} {d : Dm} (h : RiseD l) (hn : findD l d.nm < 0) : RiseD (insD l d) := by
  have hne : ∀ a ∈ l, a.nm ≠ d.nm := by
    rcases idx_cases (named d.nm) l with ⟨_, h1⟩ | ⟨i, a, h1, _⟩
    · exact fun a ha => of_decide_eq_false (h1 a ha)
    · unfold findD at hn
      omega
  have hb : ∀ j, j < spot l d.nm → ∀ b, l[j]? = some b → ltB b.nm d.nm = true := fun j hj b hb => by
    obtain ⟨hj', rfl⟩ := List.getElem?_eq_some_iff.1 hb
    have := List.not_of_lt_findIdx (p := beforeB d.nm) (xs := l) hj
    simpa [beforeB] using this
  have ha : ∀ b, l[spot l d.nm]? = some b → ltB d.nm b.nm = true := fun b hb => by
    obtain ⟨hj', rfl⟩ := List.getElem?_eq_some_iff.1 hb
    have h1 : beforeB d.nm l[spot l d.nm] = true := List.findIdx_getElem (p := beforeB d.nm) (xs := l) (w := hj')
    refine lt_tri ?_ (hne _ (List.getElem_mem _))
    simpa [beforeB] using h1
  have hp := List.pairwise_iff_getElem.1 h
  unfold insD RiseD
  rw [List.pairwise_append, List.pairwise_cons]
  refine ⟨h.sublist (List.take_sublist _ _), ⟨fun b hb => ?_, h.sublist (List.drop_sublist _ _)⟩, fun a ha' b hb' => ?_⟩
  · obtain ⟨j, hj⟩ := List.mem_iff_getElem?.1 hb
    rw [List.getElem?_drop] at hj
    cases j with
    | zero => exact ha b (by simpa using hj)
    | succ j =>
      obtain ⟨hj', rfl⟩ := List.getElem?_eq_some_iff.1 hj
      have hs : spot l d.nm < l.length := by omega
      exact lt_tr (ha _ (List.getElem?_eq_getElem hs)) (hp _ _ hs hj' (by omega))
  · obtain ⟨i, hi⟩ := List.mem_iff_getElem?.1 ha'
    rw [List.getElem?_take] at hi
    split at hi
    · next hlt =>
      rcases List.mem_cons.1 hb' with rfl | hb'
      · exact hb i hlt a hi
      · obtain ⟨j, hj⟩ := List.mem_iff_getElem?.1 hb'
        rw [List.getElem?_drop] at hj
        obtain ⟨hi', rfl⟩ := List.getElem?_eq_some_iff.1 hi
        obtain ⟨hj', rfl⟩ := List.getElem?_eq_some_iff.1 hj
        exact hp _ _ hi' hj' (by omega)
    · cases hi
theorem good_ev_parts {v : Ev} (h : goodE v = true) : (0 ≤ v.k ∧ v.k ≤ 10) ∧ (0 ≤ v.now ∧ v.now ≤ 1099511627776) ∧ 0 ≤ v.sg ∧ (v.k = 0 → Co.rightB v.dn v.dl v.ss = true) := by
  unfold goodE Co.kindG at h
  simp only [Bool.and_eq_true, decide_eq_true_eq] at h
  obtain ⟨⟨⟨⟨⟨h1, h2⟩, h3⟩, h4⟩, h5⟩, h6⟩ := h
  refine ⟨h1, h2, h3, fun hk => ?_⟩
  unfold Co.defG at h5
  rw [if_pos hk, Bool.and_eq_true] at h5
  exact h5.2
theorem rightB_D {nm : ByteArray} {dl : Int} {ss : List Stp} (h : Co.rightB nm dl ss = true) : RightD nm dl ss := by
  refine Sa.rightB_iff.1 ?_
  unfold Co.rightB at h
  simp only [Bool.and_eq_true, decide_eq_true_eq] at h
  obtain ⟨⟨⟨⟨⟨h0, h1⟩, h2⟩, h3⟩, h4⟩, h5⟩ := h
  unfold Sa.rightB
  simp only [Bool.and_eq_true, decide_eq_true_eq, List.all_eq_true, List.mem_range]
  refine ⟨⟨⟨h0, h1, h2⟩, by omega, h4⟩, fun i hi => ?_⟩
  refine (Co.stepsB_iff ss).1 h5 i _ ?_
  have := Sa.stp_at (ss := ss) (i := (i : Int)) (by omega) (by omega)
  simpa using this
section
variable {nm : ByteArray} {dl now : Int} {ss : List Stp} {s : Sg}
/-- an error changes nothing; a right saga stays right -/
theorem good_doA {a : Ac} (h : GoodS nm dl ss s) : GoodS nm dl ss (doA nm dl ss s a).1 ∧ ((doA nm dl ss s a).2.2 ≠ 0 → (doA nm dl ss s a).1 = s) := by
  by_cases hl : s.ph = 0 ∨ s.ph = 1 → s.out = true ∨ s.tr ≤ (Sa.planOf ss s).r
  · have := Sa.live_doA (a := a) (⟨h, hl⟩ : Sa.Live nm dl ss s)
    exact ⟨this.1.good, this.2⟩
  · have hno : (s.ph = 0 ∨ s.ph = 1) ∧ s.out = false ∧ (Sa.planOf ss s).r < s.tr := by
      have h1 := Classical.not_imp.1 hl
      refine ⟨h1.1, ?_, ?_⟩
      · cases ho : s.out with
        | false => rfl
        | true => exact absurd (.inl ho) h1.2
      · exact Classical.byContradiction fun e => h1.2 (.inr (by omega))
    have hm : ∀ now, Sa.mayC dl ss s now = false := fun now => decide_eq_false fun e => by omega
    unfold doA
    split
    · unfold emitA
      split
      · exact ⟨h, fun _ => rfl⟩
      · rw [hm, if_pos rfl]
        exact ⟨h, fun _ => rfl⟩
    · split
      · unfold replyA
        split
        · exact ⟨h, fun _ => rfl⟩
        · next h0 =>
          have hr := Sa.refE_zero (Decidable.not_not.1 h0)
          split
          · exact ⟨h, fun _ => rfl⟩
          · split
            · exact ⟨h, fun _ => rfl⟩
            · next ha =>
              split
              · exact ⟨(Sa.live_done h hr.2.1).good, fun e => absurd rfl e⟩
              · exact ⟨(Sa.live_fail h (Sa.acc_phase (by simpa using ha)) hr.2.1).good, fun e => absurd rfl e⟩
      · split
        · by_cases h0 : refE nm dl ss s a.now = 0
          · have hr := Sa.refE_zero h0
            unfold numA lateA expireA cancelA retryA skipA abandonA
            simp only [h0, ne_eq, not_true_eq_false, if_false]
            split
            · split
              · exact ⟨h, fun _ => rfl⟩
              · next hl => exact ⟨(Sa.live_fail h (Sa.out_phase h (by simpa using fun e => hl (.inl e))) hr.2.1).good, fun e => absurd rfl e⟩
            · split
              · split
                · exact ⟨h, fun _ => rfl⟩
                · exact ⟨(Sa.live_ahead h (by omega) hr.2.1).good, fun e => absurd rfl e⟩
              · split
                · split
                  · exact ⟨h, fun _ => rfl⟩
                  · exact ⟨(Sa.live_ahead h (by omega) hr.2.1).good, fun e => absurd rfl e⟩
                · split
                  · split
                    · exact ⟨h, fun _ => rfl⟩
                    · exact ⟨(Sa.live_put h (.inr rfl) h.fld.sp.1 h.fld.sp.2 hr.2.1).good, fun e => absurd rfl e⟩
                  · split
                    · split
                      · exact ⟨h, fun _ => rfl⟩
                      · exact ⟨(Sa.live_done (Sa.good_skip h) hr.2.1).good, fun e => absurd rfl e⟩
                    · split
                      · split
                        · exact ⟨h, fun _ => rfl⟩
                        · exact ⟨(Sa.live_end h (by omega)).good, fun e => absurd rfl e⟩
                      · exact ⟨h, fun _ => rfl⟩
          · unfold numA lateA expireA cancelA retryA skipA abandonA
            simp only [ne_eq, h0, not_false_eq_true, if_true]
            repeat' split
            all_goals exact ⟨h, fun _ => rfl⟩
        · exact ⟨h, fun _ => rfl⟩
theorem tr_done {n : Nat} (h : s.tr ≤ 9223372036854775807) : (Sa.doneS n s now).tr ≤ 9223372036854775807 := by
  unfold Sa.doneS Sa.aheadS
  repeat' split
  all_goals first | exact h | exact (show (0 : Int) ≤ 9223372036854775807 by decide)
theorem tr_ahead {l : Int} (h : s.tr ≤ 9223372036854775807) : (Sa.aheadS s l now).tr ≤ 9223372036854775807 := by
  unfold Sa.aheadS
  repeat' split
  all_goals first | exact h | exact (show (0 : Int) ≤ 9223372036854775807 by decide)
theorem tr_fail (h : s.tr ≤ 9223372036854775807) : (Sa.failS ss s now).tr ≤ 9223372036854775807 := by
  unfold Sa.failS
  repeat' split
  · exact h
  · exact tr_ahead h
  · exact h
theorem tr_doA {a : Ac} (hg : GoodS nm dl ss s) (h : s.tr ≤ 9223372036854775807) : (doA nm dl ss s a).1.tr ≤ 9223372036854775807 := by
  unfold doA
  split
  · unfold emitA
    split
    · exact h
    · split
      · exact h
      · next hm =>
        have hm' : Sa.mayC dl ss s a.now = true := by simpa using hm
        have hm2 := of_decide_eq_true hm'
        have hp := Sa.good_plan hg
        have hr := hp.2.1
        show s.tr + 1 ≤ 9223372036854775807
        omega
  · split
    · unfold replyA
      repeat' split
      all_goals first | exact h | exact tr_done h | exact tr_fail h
    · split
      · unfold numA lateA expireA cancelA retryA skipA abandonA
        repeat' split
        all_goals first | exact h | exact tr_fail h | exact tr_ahead h | exact tr_done (s := Sa.skipS s) h | exact (show (0 : Int) ≤ 9223372036854775807 by decide)
      · exact h
end
section
variable {x : Ms} {v : Ev} {lim : Int}
theorem OkS.more {l l' : List Dm} {nx nx' : Int} {s : Sg} (h : OkS l nx s) (hl : ∀ d ∈ l, d ∈ l') (hn : nx ≤ nx') : OkS l' nx' s := by
  obtain ⟨d, h1, h2, h3, h4⟩ := h
  exact ⟨d, hl d h1, h2, by omega, h4⟩
/-- a saga's definition is the one that is found -/
theorem OkS.at_ {l : List Dm} {nx : Int} {s : Sg} (hl : RiseD l) (h : OkS l nx s) : ∃ i : Nat, findD l s.dn = (i : Int) ∧ l[i]? = some (dmOf l (findD l s.dn)) ∧ dmOf l (findD l s.dn) ∈ l ∧ (dmOf l (findD l s.dn)).nm = s.dn ∧ s.id < nx ∧ GoodS (dmOf l (findD l s.dn)).nm (dmOf l (findD l s.dn)).dl (dmOf l (findD l s.dn)).ss s := by
  obtain ⟨d, h1, h2, h3, h4⟩ := h
  obtain ⟨i, hi, hd⟩ := findD_mem hl h1
  rw [← h2, hi, dmOf_is hd]
  exact ⟨i, rfl, hd, h1, rfl, h3, h4⟩
theorem inv_def (h : Inv x) (hg : goodE v = true) (hk : v.k = 0) (hm : Mod v.dn v.ss) : Inv (defS x v).1 := by
  unfold defS
  split
  · exact h
  · next h1 =>
    split
    · exact h
    · next h2 =>
      refine ⟨⟨h.ok.nx, ⟨by rw [insD_len]; omega, insD_rise h.ok.ds.rise (by show findD x.ds v.dn < 0; omega), fun d hd => ?_⟩, h.ok.rise, fun s hs => (h.ok.gs s hs).more (fun d hd => mem_insD.2 (.inr hd)) (Int.le_refl _)⟩, fun d hd => ?_, h.tr⟩
      · rcases mem_insD.1 hd with rfl | hd
        · exact rightB_D ((good_ev_parts hg).2.2.2 hk)
        · exact h.ok.ds.right d hd
      · rcases mem_insD.1 hd with rfl | hd
        · exact hm
        · exact h.mod d hd
theorem inv_start (h : Inv x) (hg : goodE v = true) : Inv (startS x v lim).1 := by
  have hv := good_ev_parts hg
  unfold startS
  split
  · exact h
  · next h1 =>
    split
    · exact h
    · next h2 =>
      split
      · exact h
      · next h3 =>
        have h2 : v.sg = x.nx := Decidable.not_not.1 h2
        rcases idx_cases (named v.nm) x.ds with ⟨h4, _⟩ | ⟨i, d, h4, hd, hp, _⟩
        · unfold findD at h1; omega
        · have hdn : d.nm = v.nm := of_decide_eq_true hp
          have hmem := List.mem_of_getElem? hd
          have hb := (Sa.live_begin (now := v.now) (h.ok.ds.right d hmem) hv.2.2.1).good
          rw [hdn] at hb
          refine ⟨⟨by show 0 ≤ x.nx + 1; have := h.ok.nx; omega, h.ok.ds, ?_, fun s hs => ?_⟩, h.mod, fun s hs => ?_⟩
          · show RiseS (x.gs ++ [beginS v.nm v.sg v.now])
            refine List.pairwise_append.2 ⟨h.ok.rise, List.pairwise_singleton _ _, fun a ha b hb => ?_⟩
            obtain ⟨_, _, _, h5, _⟩ := h.ok.gs a ha
            rw [List.mem_singleton.1 hb]
            show a.id < v.sg
            omega
          · rcases List.mem_append.1 hs with hs | hs
            · exact (h.ok.gs s hs).more (fun d hd => hd) (by show x.nx ≤ x.nx + 1; omega)
            · rw [List.mem_singleton.1 hs]
              exact ⟨d, hmem, hdn, by show v.sg < x.nx + 1; omega, by rw [hdn]; exact hb⟩
          · rcases List.mem_append.1 hs with hs | hs
            · exact h.tr s hs
            · rw [List.mem_singleton.1 hs]
              exact ⟨by show (0 : Int) ≤ 9223372036854775807; decide, by show v.sg ≤ _; omega⟩
theorem inv_forget {id : Int} (h : Inv x) : Inv (forgetS x id).1 := by
  unfold forgetS
  split
  · exact h
  · split
    · exact h
    · exact ⟨⟨h.ok.nx, h.ok.ds, h.ok.rise.sublist (List.eraseIdx_sublist _ _), fun s hs => h.ok.gs s (List.mem_of_mem_eraseIdx hs)⟩, h.mod, fun s hs => h.tr s (List.mem_of_mem_eraseIdx hs)⟩
/-- the saga that is found, and its definition -/
theorem found_at (h : Inv x) {id : Int} (hi : ¬ findS x.gs id < 0) : ∃ (i : Nat) (s : Sg), findS x.gs id = (i : Int) ∧ i < x.gs.length ∧ x.gs[i]? = some s ∧ sgOf x.gs (findS x.gs id) = s ∧ s ∈ x.gs ∧ s.id = id ∧ OkS x.ds x.nx s ∧ s.tr ≤ 9223372036854775807 ∧ s.id ≤ 9223372036854775807 := by
  rcases idx_cases (numbered id) x.gs with ⟨h4, _⟩ | ⟨i, s, h4, hs, hp, hl, _⟩
  · unfold findS at hi; omega
  · have hm := List.mem_of_getElem? hs
    refine ⟨i, s, h4, hl, hs, ?_, hm, of_decide_eq_true hp, h.ok.gs s hm, h.tr s hm⟩
    unfold findS
    rw [h4]
    exact sgOf_is hs
theorem id_actA {d : Dm} {s : Sg} : (actA d s v).1.id = s.id := Sa.id_doA
theorem dn_good {nm : ByteArray} {dl : Int} {ss : List Stp} {s : Sg} (h : GoodS nm dl ss s) : nm = s.dn := h.dn.symm
theorem inv_act (h : Inv x) : Inv (actS x v).1 := by
  unfold actS
  split
  · exact h
  · next h1 =>
    obtain ⟨i, s, hi, hl, hs, hsg, hm, hid, ho, ht⟩ := found_at h h1
    rw [hsg, hi, Int.toNat_natCast]
    obtain ⟨j, _, hd, hdm, hdn, hlt, hg⟩ := ho.at_ h.ok.ds.rise
    have hg2 := (good_doA (a := ⟨acK v.k, v.now, v.r⟩) hg).1
    have ht2 := tr_doA (a := ⟨acK v.k, v.now, v.r⟩) hg ht.1
    have hid2 : (actA (dmOf x.ds (findD x.ds s.dn)) s v).1.id = s.id := id_actA
    refine ⟨⟨h.ok.nx, h.ok.ds, ?_, fun t ht => ?_⟩, h.mod, fun t hmt => ?_⟩
    · show RiseS (x.gs.set i _)
      have hp := List.pairwise_iff_getElem.1 h.ok.rise
      obtain ⟨hi', hse⟩ := List.getElem?_eq_some_iff.1 hs
      have key : ∀ (k : Nat) (hk : k < x.gs.length), ((x.gs.set i (actA (dmOf x.ds (findD x.ds s.dn)) s v).1)[k]'(by rw [List.length_set]; exact hk)).id = (x.gs[k]).id := fun k hk => by
        rw [List.getElem_set]
        split
        · next e => subst e; rw [hid2, ← hse]
        · rfl
      refine List.pairwise_iff_getElem.2 fun a b ha hb hab => ?_
      rw [List.length_set] at ha hb
      rw [key a ha, key b hb]
      exact hp a b ha hb hab
    · rcases List.mem_or_eq_of_mem_set ht with ht | rfl
      · exact h.ok.gs t ht
      · refine ⟨_, hdm, ?_, ?_, hg2⟩
        · exact dn_good hg2
        · rw [hid2]; exact hlt
    · rcases List.mem_or_eq_of_mem_set hmt with hmt | rfl
      · exact h.tr t hmt
      · exact ⟨ht2, by rw [hid2]; exact ht.2⟩
theorem inv_do (h : Inv x) (hm : Mod v.dn v.ss) : Inv (doS x v lim).1 := by
  unfold doS
  split
  · exact h
  · next hg =>
    have hg : goodE v = true := by simpa using hg
    split
    · next hk => exact inv_def h hg hk hm
    · split
      · exact inv_start h hg
      · split
        · exact inv_forget h
        · exact inv_act h
end
end Go.Proofs.YteejocnogpaifaaGreatDoor.Tt
