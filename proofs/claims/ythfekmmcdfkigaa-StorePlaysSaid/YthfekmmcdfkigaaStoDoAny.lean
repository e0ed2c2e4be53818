/-
  What the statement's do answers to any act, and how it stands to what the program's store does.
  Conditions: a store's state; acts that are short.
-/
import Derived.Test.YthfekmmcdfkigaaStoDoc3
namespace Go.Proofs.Ythfekmmcdfkigaa
open Go.RowKit

/-- an act by the document: the files then, whether the power is gone, the error's number -/
def doP (st : St) (a : ActD) : List Fl × Bool × Nat :=
  if a.kind = 6 then (if st.down then (bootF st.fs a.ks, false, 0) else (st.fs, false, 9))
  else if a.kind = 5 then (st.fs, true, 0)
  else if st.down then (st.fs, true, 12)
  else if a.kind ≤ 1 then
    if st.takes (nameB a.s.data.toList) a.s.data.toList a.b.length = 0 then
      (putBy Fl.name { (lookBy Fl.name a.s.data.toList st.fs).getD (newF a.s.data.toList) with bs := ((lookBy Fl.name a.s.data.toList st.fs).getD (newF a.s.data.toList)).bs ++ a.b } st.fs, false, 0)
    else (st.fs, false, st.takes (nameB a.s.data.toList) a.s.data.toList a.b.length)
  else match lookBy Fl.name a.s.data.toList st.fs with
    | none => (st.fs, false, 7)
    | some q =>
      if a.kind = 2 then (putBy Fl.name { q with safe := q.bs.length, stays := true } st.fs, false, 0)
      else if a.kind = 3 then
        if a.n < 0 ∨ (q.bs.length : Int) < a.n then (st.fs, false, 1) else (putBy Fl.name { q with bs := q.bs.take a.n.toNat, safe := min q.safe a.n.toNat } st.fs, false, 0)
      else (delBy Fl.name a.s.data.toList st.fs, false, 0)

/-- what the store is then, by what the document says and by the fuse -/
theorem run_do {st : St} {a : ActD} (h0 : 0 ≤ a.kind) (h6 : a.kind ≤ 6) :
    runS st a = if a.kind ≤ 4 ∧ (doP st a).2.2 = 0 ∧ st.fuse = 1 then (⟨if a.kind ≤ 1 then (doP st a).1 else st.fs, st.cap, 0, true⟩, 12)
      else (⟨(doP st a).1, st.cap, if a.kind = 5 then 0 else if a.kind ≤ 4 ∧ (doP st a).2.2 = 0 then st.fuse - 1 else st.fuse, (doP st a).2.1⟩, (doP st a).2.2) := by
  obtain ⟨fs, cap, fuse, down⟩ := st
  by_cases k6 : a.kind = 6
  · have e1 : runS ⟨fs, cap, fuse, down⟩ a = St.boot ⟨fs, cap, fuse, down⟩ a.ks := by
      unfold runS
      rw [if_neg (by omega), if_neg (by omega), if_neg (by omega), if_neg (by omega), if_neg (by omega), if_pos k6]
    rw [e1, if_neg (by omega), if_neg (by omega), if_neg (by omega)]
    unfold doP St.boot
    rw [if_pos k6]
    cases down <;> rfl
  · by_cases k5 : a.kind = 5
    · have e1 : runS ⟨fs, cap, fuse, down⟩ a = (St.crash ⟨fs, cap, fuse, down⟩, 0) := by
        unfold runS
        rw [if_neg (by omega), if_neg (by omega), if_neg (by omega), if_neg (by omega), if_pos k5]
      rw [e1, if_neg (by omega), if_pos k5]
      unfold doP St.crash
      rw [if_neg k6, if_pos k5]
    · have h4 : a.kind ≤ 4 := by omega
      rw [if_neg k5]
      cases down with
      | true =>
        have e2 : doP ⟨fs, cap, fuse, true⟩ a = (fs, true, 12) := by unfold doP; rw [if_neg k6, if_neg k5, if_pos rfl]
        rw [e2]
        simp only [if_neg (show ¬ (a.kind ≤ 4 ∧ (12 : Nat) = 0 ∧ fuse = 1) by omega), if_neg (show ¬ (a.kind ≤ 4 ∧ (12 : Nat) = 0) by omega)]
        unfold runS
        by_cases k01 : a.kind = 0 ∨ a.kind = 1
        · rw [if_pos k01]
          have : St.takes ⟨fs, cap, fuse, true⟩ (nameB a.s.data.toList) a.s.data.toList a.b.length = 12 := by simp [St.takes]
          unfold St.append
          rw [this, if_neg (by omega)]
        · rw [if_neg k01]
          by_cases k2 : a.kind = 2
          · rw [if_pos k2]; rfl
          · rw [if_neg k2]
            by_cases k3 : a.kind = 3
            · rw [if_pos k3]; rfl
            · rw [if_neg k3, if_pos (by omega)]; rfl
      | false =>
        by_cases k1 : a.kind ≤ 1
        · have k01 : a.kind = 0 ∨ a.kind = 1 := by omega
          have e2 : doP ⟨fs, cap, fuse, false⟩ a = if St.takes ⟨fs, cap, fuse, false⟩ (nameB a.s.data.toList) a.s.data.toList a.b.length = 0 then
              (putBy Fl.name { (lookBy Fl.name a.s.data.toList fs).getD (newF a.s.data.toList) with bs := ((lookBy Fl.name a.s.data.toList fs).getD (newF a.s.data.toList)).bs ++ a.b } fs, false, 0)
            else (fs, false, St.takes ⟨fs, cap, fuse, false⟩ (nameB a.s.data.toList) a.s.data.toList a.b.length) := by
            unfold doP
            rw [if_neg k6, if_neg k5, if_neg (by simp), if_pos k1]
          rw [e2]
          unfold runS
          rw [if_pos k01]
          unfold St.append
          by_cases ht : St.takes ⟨fs, cap, fuse, false⟩ (nameB a.s.data.toList) a.s.data.toList a.b.length = 0
          · rw [if_pos ht, if_pos ht, deed_st]
            simp only [if_pos k1]
            by_cases hf : fuse = 1
            · rw [if_pos ⟨h4, trivial, hf⟩]; simp [hf, deedE]
            · rw [if_neg (by simp [hf]), if_pos ⟨h4, trivial⟩]; simp [hf, deedE]
          · rw [if_neg ht, if_neg ht]
            simp only [if_neg (show ¬ (a.kind ≤ 4 ∧ St.takes ⟨fs, cap, fuse, false⟩ (nameB a.s.data.toList) a.s.data.toList a.b.length = 0 ∧ fuse = 1) from fun h => ht h.2.1), if_neg (show ¬ (a.kind ≤ 4 ∧ St.takes ⟨fs, cap, fuse, false⟩ (nameB a.s.data.toList) a.s.data.toList a.b.length = 0) from fun h => ht h.2)]
        · have e2 : doP ⟨fs, cap, fuse, false⟩ a = match lookBy Fl.name a.s.data.toList fs with
            | none => (fs, false, 7)
            | some q =>
              if a.kind = 2 then (putBy Fl.name { q with safe := q.bs.length, stays := true } fs, false, 0)
              else if a.kind = 3 then
                if a.n < 0 ∨ (q.bs.length : Int) < a.n then (fs, false, 1) else (putBy Fl.name { q with bs := q.bs.take a.n.toNat, safe := min q.safe a.n.toNat } fs, false, 0)
              else (delBy Fl.name a.s.data.toList fs, false, 0) := by
            unfold doP
            rw [if_neg k6, if_neg k5, if_neg (by simp), if_neg k1]
          rw [e2]
          unfold runS
          rw [if_neg (by omega)]
          cases hl : lookBy Fl.name a.s.data.toList fs with
          | none =>
            simp only [if_neg (show ¬ (a.kind ≤ 4 ∧ (7 : Nat) = 0 ∧ fuse = 1) by omega), if_neg (show ¬ (a.kind ≤ 4 ∧ (7 : Nat) = 0) by omega)]
            by_cases k2 : a.kind = 2
            · rw [if_pos k2]; unfold St.sync; simp [hl]
            · rw [if_neg k2]
              by_cases k3 : a.kind = 3
              · rw [if_pos k3]; unfold St.trunc; simp [hl]
              · rw [if_neg k3, if_pos (by omega)]; unfold St.remove; simp [hl]
          | some q =>
            simp only
            by_cases k2 : a.kind = 2
            · simp only [if_pos k2, if_neg k1]
              unfold St.sync St.doing
              simp only [hl, Bool.false_eq_true, if_false]
              by_cases hf : fuse = 1
              · rw [if_pos hf, if_pos ⟨h4, trivial, hf⟩]; rfl
              · rw [if_neg hf, if_neg (by simp [hf]), if_pos ⟨h4, trivial⟩]
            · simp only [if_neg k2, if_neg k1]
              by_cases k3 : a.kind = 3
              · simp only [if_pos k3]
                unfold St.trunc St.doing
                simp only [hl, Bool.false_eq_true, if_false]
                by_cases hn : a.n < 0 ∨ (q.bs.length : Int) < a.n
                · simp only [if_pos hn]
                  rw [if_neg (by omega), if_neg (by omega)]
                · simp only [if_neg hn]
                  by_cases hf : fuse = 1
                  · rw [if_pos hf, if_pos ⟨h4, trivial, hf⟩]; rfl
                  · rw [if_neg hf, if_neg (by simp [hf]), if_pos ⟨h4, trivial⟩]
              · simp only [if_neg k3]
                rw [if_pos (by omega)]
                unfold St.remove St.doing
                simp only [hl, Bool.false_eq_true, if_false]
                by_cases hf : fuse = 1
                · rw [if_pos hf, if_pos ⟨h4, trivial, hf⟩]; rfl
                · rw [if_neg hf, if_neg (by simp [hf]), if_pos ⟨h4, trivial⟩]

theorem len_le {st : St} (hok : st.Ok) {q : Fl} (hq : q ∈ st.fs) : q.bs.length ≤ 16777216 := by
  have h1 := used_take (s := st) hq
  have h2 := hok.used
  have h3 := hok.cap
  omega
theorem do_any (A : Option Addr) (c : Nat) (st : St) (hok : st.Ok) (a : ActD) (w : World) (h : Fils w w.heap.size A st.fs) (hc : st.fs.length ≤ c) {B : Nat} (hact : a.Ok w B) (hB : B ≤ w.heap.size) (ho : okA a) (h0 : 0 ≤ a.kind) (h6 : a.kind ≤ 6) :
    Calls Try.prog 12 #[.slice A st.fs.length c, .bool st.down, .int .i64 (st.cap : Int), .agg #[.int .i64 a.kind, .int .i64 a.n, .string a.s, .slice a.ba a.b.length a.bc, .slice a.ka a.ks.length a.kc]] w (DoIs w A c st.fs (doP st a).1 (doP st a).2.1 (doP st a).2.2) := by
  have hn := hok.many
  have hu := hok.used
  have hcp := hok.cap
  obtain ⟨o1, o2, o3⟩ := ho
  unfold doP
  by_cases k6 : a.kind = 6
  · simp only [if_pos k6]
    cases hd : st.down with
    | true => exact do_boot A st.fs c _ a w h hn hact hB ⟨o1, o2, o3⟩ hok.safe (fun q hq => len_le hok hq) k6
    | false => exact do_boot_up A st.fs c _ a w hc k6
  · simp only [if_neg k6]
    by_cases k5 : a.kind = 5
    · simp only [if_pos k5]
      exact do_crash A st.fs c _ a w st.down hc k5
    · simp only [if_neg k5]
      cases hd : st.down with
      | true => exact do_down A st.fs c _ a w hc (by omega)
      | false =>
        simp only [Bool.false_eq_true, if_false]
        obtain ⟨k, b, hp⟩ := pos_ex st.fs a.s.data.toList
        have hlk := pos_look hp hok.rise
        by_cases k1 : a.kind ≤ 1
        · simp only [if_pos k1]
          have ht : st.takes (nameB a.s.data.toList) a.s.data.toList a.b.length = if !nameB a.s.data.toList then 10 else if (lookBy Fl.name a.s.data.toList st.fs).isNone && decide (256 ≤ st.fs.length) then 8 else if st.cap - usedF st.fs < a.b.length then 13 else 0 := by
            unfold St.takes
            rw [hd]
            rfl
          rw [ht]
          cases hg : nameB a.s.data.toList with
          | false => exact do_name A st.fs c _ a w h hn hc hp o1 k1 hg
          | true =>
            simp only [Bool.not_true, Bool.false_eq_true, if_false]
            cases b with
            | false =>
              rw [if_neg (by simp)] at hlk
              rw [hlk]
              simp only [Option.isNone_none, Bool.true_and]
              by_cases hf : 256 ≤ st.fs.length
              · simp only [decide_eq_true hf, if_true]
                exact do_full A st.fs c _ a w h hn hc hp o1 k1 hg hf
              · simp only [decide_eq_false hf, Bool.false_eq_true, if_false]
                by_cases hsp : st.cap - usedF st.fs < a.b.length
                · simp only [if_pos hsp]
                  exact do_space_new A st.fs c _ a w h hn hc hp o1 k1 hg (by omega) (by omega) (by omega) (by omega) o2 (by omega)
                · simp only [if_neg hsp]
                  exact do_app_new A st.fs c _ a w h hn hc hp hact hB o1 k1 hg (by omega) (by omega) (by omega) (by omega) o2 (by omega)
            | true =>
              obtain ⟨hk, hkn⟩ := hp.is rfl
              rw [if_pos rfl, List.getElem?_eq_getElem hk] at hlk
              rw [hlk]
              simp only [Option.isNone_some, Bool.false_and, Bool.false_eq_true, if_false]
              by_cases hsp : st.cap - usedF st.fs < a.b.length
              · simp only [if_pos hsp]
                exact do_space_old A st.fs c _ a w h hn hc hp o1 k1 hg (by omega) (by omega) (by omega) o2 (by omega)
              · simp only [if_neg hsp]
                exact do_app_old A st.fs c _ a w h hn hc hp hk rfl (len_le hok (List.getElem_mem hk)) hact hB o1 k1 hg (by omega) (by omega) (by omega) o2 (by omega)
        · simp only [if_neg k1]
          cases b with
          | false =>
            rw [if_neg (by simp)] at hlk
            rw [hlk]
            exact do_none A st.fs c _ a w h hn hc hp (by omega) (by omega)
          | true =>
            obtain ⟨hk, hkn⟩ := hp.is rfl
            rw [if_pos rfl, List.getElem?_eq_getElem hk] at hlk
            rw [hlk]
            simp only
            by_cases k2 : a.kind = 2
            · simp only [if_pos k2]
              exact do_sync A st.fs c _ a w h hn hc hp hk rfl k2
            · simp only [if_neg k2]
              by_cases k3 : a.kind = 3
              · simp only [if_pos k3]
                by_cases hnn : a.n < 0 ∨ (st.fs[k].bs.length : Int) < a.n
                · simp only [if_pos hnn]
                  exact do_arg A st.fs c _ a w h hn hc hp hk k3 hnn
                · simp only [if_neg hnn]
                  exact do_trunc A st.fs c _ a w h hn hc hp hk rfl (len_le hok (List.getElem_mem hk)) k3 (n := a.n.toNat) (by omega) (by omega)
              · simp only [if_neg k3]
                rw [pos_del hp hok.rise]
                exact do_remove A st.fs c _ a w h hn hc hp hk (by omega)
end Go.Proofs.Ythfekmmcdfkigaa
