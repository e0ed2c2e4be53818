/-
  What an event leaves of a state: numbers, definitions, other sagas.
  Conditions: none.
-/
import Derived.Test.YteejocnogpaifaaGreatDoorStaMath
namespace Go.Proofs.YteejocnogpaifaaGreatDoor.Tt
open Go.Proofs.YteejocnogpaifaaGreatDoor.Df
open Go.Proofs.YteejocnogpaifaaGreatDoor.Sa (Sg Cm cm0)
open Go.Proofs.YteejocnogpaifaaGreatDoor.Co (Ev goodE Mod)

theorem findS_is {l : List Sg} {x : Int} {i : Nat} (h : findS l x = (i : Int)) : ∃ s, l[i]? = some s ∧ s.id = x := by
  rcases idx_cases (numbered x) l with ⟨h1, _⟩ | ⟨j, s, h1, hs, hp, _⟩
  · unfold findS at h; omega
  · unfold findS at h
    have : j = i := by omega
    subst this
    exact ⟨s, hs, of_decide_eq_true hp⟩
theorem findS_nat {l : List Sg} {x : Int} (h : ¬ findS l x < 0) : ∃ i : Nat, findS l x = (i : Int) := ⟨(findS l x).toNat, by omega⟩
/-- what an event leaves -/
structure Grown (x y : Ms) (v : Ev) (e : Int) : Prop where
  up : e = 0 → v.k = 1 → y.nx = x.nx + 1
  same : ¬ (e = 0 ∧ v.k = 1) → y.nx = x.nx
  len : x.ds.length ≤ y.ds.length
  ds : ∀ d ∈ x.ds, d ∈ y.ds
  gs : ∀ s ∈ x.gs, s.id ≠ v.sg → s ∈ y.gs
  few : y.gs.length ≤ x.gs.length + 1
theorem grown_same {x : Ms} {v : Ev} {e : Int} (h : ¬ (e = 0 ∧ v.k = 1)) : Grown x x v e := ⟨fun h1 h2 => absurd ⟨h1, h2⟩ h, fun _ => rfl, Nat.le_refl _, fun _ h => h, fun _ h _ => h, Nat.le_succ _⟩
theorem grown_do (x : Ms) (v : Ev) (lim : Int) : Grown x (doS x v lim).1 v (doS x v lim).2.2 := by
  unfold doS
  split
  · exact grown_same (fun h => absurd (show (3 : Int) = 0 from h.1) (by decide))
  · split
    · next hk =>
      show Grown x (defS x v).1 v (defS x v).2
      unfold defS
      split
      · exact grown_same (fun h => by have := h.1; omega)
      · split
        · exact grown_same (fun h => by have := h.1; omega)
        · exact ⟨fun _ h => by omega, fun _ => rfl, by show _ ≤ (insD _ _).length; rw [insD_len]; omega, fun d hd => mem_insD.2 (.inr hd), fun _ h _ => h, Nat.le_succ _⟩
    · split
      · next hk =>
        show Grown x (startS x v lim).1 v (startS x v lim).2
        unfold startS
        split
        · exact grown_same (fun h => by have := h.1; omega)
        · split
          · exact grown_same (fun h => by have := h.1; omega)
          · split
            · exact grown_same (fun h => by have := h.1; omega)
            · exact ⟨fun _ _ => rfl, fun h => absurd ⟨rfl, hk⟩ h, Nat.le_refl _, fun _ h => h, fun s hs _ => List.mem_append_left _ hs, by show (x.gs ++ [_]).length ≤ _; rw [List.length_append]; exact Nat.le_refl _⟩
      · next hk1 =>
        split
        · next hk =>
          show Grown x (forgetS x v.sg).1 v (forgetS x v.sg).2
          unfold forgetS
          split
          · exact grown_same (fun h => hk1 h.2)
          · next hf =>
            split
            · exact grown_same (fun h => hk1 h.2)
            · obtain ⟨i, hi⟩ := findS_nat hf
              obtain ⟨t, ht, htd⟩ := findS_is hi
              refine ⟨fun _ h => absurd h hk1, fun _ => rfl, Nat.le_refl _, fun _ h => h, fun s hs hne => ?_, ?_⟩
              · show s ∈ x.gs.eraseIdx (findS x.gs v.sg).toNat
                rw [hi, Int.toNat_natCast, List.mem_eraseIdx_iff_getElem?]
                obtain ⟨j, hj⟩ := List.mem_iff_getElem?.1 hs
                refine ⟨j, fun e => ?_, hj⟩
                rw [e, ht] at hj
                injection hj with hj
                exact hne (hj ▸ htd)
              · show (x.gs.eraseIdx _).length ≤ _
                have := List.length_eraseIdx_le x.gs (findS x.gs v.sg).toNat
                omega
        · unfold actS
          split
          · exact grown_same (fun h => hk1 h.2)
          · next hf =>
            obtain ⟨i, hi⟩ := findS_nat hf
            obtain ⟨t, ht, htd⟩ := findS_is hi
            refine ⟨fun _ h => absurd h hk1, fun _ => rfl, Nat.le_refl _, fun _ h => h, fun s hs hne => ?_, ?_⟩
            · show s ∈ x.gs.set (findS x.gs v.sg).toNat _
              rw [hi, Int.toNat_natCast]
              obtain ⟨j, hj⟩ := List.mem_iff_getElem?.1 hs
              have hij : i ≠ j := fun e => by
                rw [← e, ht] at hj
                injection hj with hj
                exact hne (hj ▸ htd)
              exact List.mem_iff_getElem?.2 ⟨j, by rw [List.getElem?_set_ne hij]; exact hj⟩
            · show (x.gs.set _ _).length ≤ _
              rw [List.length_set]
              omega
/-- a definition is found where it stands; a saga that the event doesn't name too -/
theorem stays_ds {x : Ms} {v : Ev} {lim : Int} (h : Inv x) (hm : Mod v.dn v.ss) {d : Dm} (hd : d ∈ x.ds) : ∃ i : Nat, findD (doS x v lim).1.ds d.nm = (i : Int) ∧ (doS x v lim).1.ds[i]? = some d :=
  findD_mem (inv_do h hm).ok.ds.rise ((grown_do x v lim).ds d hd)
theorem stays_gs {x : Ms} {v : Ev} {lim : Int} (h : Inv x) (hm : Mod v.dn v.ss) {s : Sg} (hs : s ∈ x.gs) (hn : s.id ≠ v.sg) : ∃ i : Nat, findS (doS x v lim).1.gs s.id = (i : Int) ∧ (doS x v lim).1.gs[i]? = some s := by
  obtain ⟨i, hi⟩ := List.mem_iff_getElem?.1 ((grown_do x v lim).gs s hs hn)
  exact ⟨i, findS_at (inv_do h hm).ok.rise hi, hi⟩
end Go.Proofs.YteejocnogpaifaaGreatDoor.Tt
