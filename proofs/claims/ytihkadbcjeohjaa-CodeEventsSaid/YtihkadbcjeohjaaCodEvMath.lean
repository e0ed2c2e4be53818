/-
  Plain mathematics of events and their forms: which are right, what is taken of bytes, that it is what was put, and that no form is another's beginning.
  Conditions: as each theorem names them.
-/
import Derived.Test.YtihkadbcjeohjaaCodMath
import Derived.Test.YtihkadbcjeohjaaDefSame
namespace Go.Proofs.Ytihkadbcjeohjaa.Co
open Go.Proofs.Ytihkadbcjeohjaa.Bo (P)
open Go.Proofs.Ytihkadbcjeohjaa.Df
open Go.Proofs.Ytihkadbcjeohjaa.Sa (Sg Rp)

/-! ### What is right -/
def stepsB (ss : List Stp) : Bool := (List.range ss.length).all fun i => match ss[i]? with
  | some s => decide (stepE ss i s = 0)
  | none => true
def rightB (nm : ByteArray) (dl : Int) (ss : List Stp) : Bool := nameB nm.data.toList && decide (0 ≤ dl) && decide (dl ≤ 1099511627776) && decide (ss.length ≠ 0) && decide (ss.length ≤ 32) && stepsB ss
theorem stepsB_iff (ss : List Stp) : stepsB ss = true ↔ ∀ i s, ss[i]? = some s → stepE ss i s = 0 := by
  unfold stepsB
  rw [List.all_eq_true]
  constructor
  · intro h i s hs
    have hi : i < ss.length := by
      rcases Nat.lt_or_ge i ss.length with h1 | h1
      · exact h1
      · rw [List.getElem?_eq_none h1] at hs; cases hs
    have := h i (List.mem_range.2 hi)
    rw [hs] at this
    exact of_decide_eq_true this
  · intro h i _
    cases hs : ss[i]? with
    | none => rfl
    | some s => exact decide_eq_true (h i s hs)
theorem chk_right {nm : ByteArray} {dl : Int} {ss : List Stp} {k e : Int} (h : ChkIs nm dl ss k e) : rightB nm dl ss = decide (e = 0) := by
  unfold ChkIs at h
  unfold rightB
  by_cases h1 : nameB nm.data.toList = false
  · rw [if_pos h1] at h
    rw [h1, h.2]
    rfl
  · rw [if_neg h1] at h
    rw [Bool.not_eq_false] at h1
    rw [h1]
    by_cases h2 : dl < 0 ∨ 1099511627776 < dl
    · rw [if_pos h2] at h
      rw [h.2]
      rcases h2 with h2 | h2
      · rw [decide_eq_false (p := 0 ≤ dl) (by omega)]; rfl
      · rw [decide_eq_false (p := dl ≤ 1099511627776) (by omega)]; simp
    · rw [if_neg h2] at h
      rw [decide_eq_true (p := 0 ≤ dl) (by omega), decide_eq_true (p := dl ≤ 1099511627776) (by omega)]
      by_cases h3 : ss.length = 0
      · rw [if_pos h3] at h
        rw [h.2, decide_eq_false (p := ss.length ≠ 0) (by omega)]
        rfl
      · rw [if_neg h3] at h
        rw [decide_eq_true (p := ss.length ≠ 0) h3]
        by_cases h4 : 32 < ss.length
        · rw [if_pos h4] at h
          rw [h.2, decide_eq_false (p := ss.length ≤ 32) (by omega)]
          rfl
        · rw [if_neg h4] at h
          rw [decide_eq_true (p := ss.length ≤ 32) (by omega)]
          simp only [Bool.and_true, Bool.true_and]
          rcases h with ⟨i, s, hs, rfl, h0, _, _⟩ | ⟨_, rfl, ha⟩
          · rw [decide_eq_false h0]
            cases hb : stepsB ss with
            | false => rfl
            | true => exact absurd ((stepsB_iff ss).1 hb i s hs) h0
          · rw [(stepsB_iff ss).2 ha]
            rfl
theorem clp_id {n : Int} (h0 : 0 ≤ n) (h1 : n ≤ 4611686018427387904) : ((clp n : Nat) : Int) = n := by unfold clp; omega
theorem clP_good {q : P} (h : q.Good) : clP q = q := by
  obtain ⟨a, b, c, d, e, f, g⟩ := h
  unfold clP
  rw [clp_id a (by omega), clp_id (by omega) (by omega), clp_id (by omega) (by omega), clp_id (by omega) (by omega)]
theorem step_zero {ss : List Stp} {i : Nat} {s : Stp} (h : stepE ss i s = 0) : (1 ≤ s.tm ∧ s.tm ≤ 1099511627776 ∧ 0 ≤ s.pr ∧ s.pr ≤ 255) ∧ s.t.Good ∧ s.u.Good := by
  unfold stepE at h
  split at h
  · cases h
  · split at h
    · cases h
    · split at h
      · cases h
      · split at h
        · cases h
        · next h1 h2 =>
          refine ⟨by omega, ?_, ?_⟩
          · exact Decidable.byContradiction fun hn => h2 (.inl hn)
          · exact Decidable.byContradiction fun hn => h2 (.inr hn)
theorem clS_zero {ss : List Stp} {i : Nat} {s : Stp} (h : stepE ss i s = 0) : clS s = s := by
  obtain ⟨⟨a, b, c, d⟩, g1, g2⟩ := step_zero h
  unfold clS
  rw [clP_good g1, clP_good g2, clp_id (by omega) (by omega), clp_id c (by omega)]
theorem right_parts {nm : ByteArray} {dl : Int} {ss : List Stp} (h : rightB nm dl ss = true) : 0 ≤ dl ∧ dl ≤ 1099511627776 ∧ ss.length ≤ 32 ∧ ∀ i s, ss[i]? = some s → stepE ss i s = 0 := by
  unfold rightB at h
  simp only [Bool.and_eq_true, decide_eq_true_eq] at h
  obtain ⟨⟨⟨⟨⟨_, h1⟩, h2⟩, _⟩, h3⟩, h4⟩ := h
  exact ⟨h1, h2, h3, (stepsB_iff ss).1 h4⟩
theorem right_cl {nm : ByteArray} {dl : Int} {ss : List Stp} (h : rightB nm dl ss = true) : ((clp dl : Nat) : Int) = dl ∧ ss.map clS = ss := by
  obtain ⟨h1, h2, _, h4⟩ := right_parts h
  refine ⟨clp_id h1 (by omega), ?_⟩
  conv => rhs; rw [← List.map_id ss]
  refine List.map_congr_left fun x hx => ?_
  obtain ⟨i, hi⟩ := List.mem_iff_getElem?.1 hx
  exact clS_zero (h4 i x hi)

/-! ### Definitions taken whole -/
def zeroP : Ps := at0 0
section
variable (l : List UInt8)
def defE : Ps := endS l (defS l zeroP)
def defNm : ByteArray := txtQ l zeroP
def defDl : Int := numQ l (txtS l zeroP)
def defL : List Stp := defSs l zeroP
end
theorem end_back {l : List UInt8} {s : Ps} (h : (endS l s).e = 0) : s.e = 0 ∧ l.length ≤ s.p := by
  obtain ⟨h1, h2⟩ := nxE_zero h
  refine ⟨h1, ?_⟩
  unfold endE at h2
  split at h2
  · cases h2
  · omega
theorem whole {l M : List UInt8} {s : Ps} (h : Back l zeroP s M) (he : (endS l s).e = 0) : l = M := by
  obtain ⟨h1, h2⟩ := end_back he
  obtain ⟨_, h3, h4⟩ := h h1
  exact h4.all (by rw [h3] at h2; exact Nat.le_trans h2 (by show 0 + _ ≤ _; omega))
theorem def_whole {l : List UInt8} (h : (defE l).e = 0) : l = defF (defNm l) (defDl l) (defL l) := whole (def_back zeroP) h
theorem def_put {nm : ByteArray} {dl : Int} {ss : List Stp} (h0 : nm.size ≤ 256) (hs : ∀ x ∈ ss, x.nm.size ≤ 256 ∧ x.pt.size ≤ 256) (hn : ss.length ≤ 32) :
    (defE (defF nm dl ss)).e = 0 ∧ defNm (defF nm dl ss) = nm ∧ defDl (defF nm dl ss) = clp dl ∧ defL (defF nm dl ss) = ss.map clS := by
  obtain ⟨h1, h2, h3, h4⟩ := def_fort (dl := dl) h0 hs hn (Has.self (defF nm dl ss))
  refine ⟨?_, h2, congrArg Int.ofNat h3, h4⟩
  unfold defE zeroP
  rw [h1, Nat.zero_add, end_fort]
  rfl
def sagaE (l : List UInt8) : Ps := endS l (sagaS l zeroP)
theorem saga_whole {l : List UInt8} (h : (sagaE l).e = 0) : l = sagaF (sagaQ l zeroP) := whole (saga_back zeroP) h
theorem saga_put {x : Sg} (h0 : x.dn.size ≤ 256) : (sagaE (sagaF x)).e = 0 ∧ sagaQ (sagaF x) zeroP = clG x := by
  obtain ⟨h1, h2⟩ := saga_fort h0 (Has.self (sagaF x))
  refine ⟨?_, h2⟩
  unfold sagaE zeroP
  rw [h1, Nat.zero_add, end_fort]
  rfl

/-! ### Events -/
def rp0 : Rp := ⟨0, 0, false, 0, false⟩
def tx0 : ByteArray := ⟨#[]⟩
def ev0 : Ev := ⟨0, 0, 0, tx0, rp0, tx0, 0, []⟩
def eqRp (a b : Rp) : Bool := decide (a.sg = b.sg) && decide (a.sp = b.sp) && decide (a.un = b.un) && decide (a.tr = b.tr) && decide (a.good = b.good)
theorem eqRp_iff {a b : Rp} : eqRp a b = true ↔ a = b := by
  obtain ⟨a1, a2, a3, a4, a5⟩ := a
  obtain ⟨b1, b2, b3, b4, b5⟩ := b
  simp [eqRp, and_assoc]
def nameG (v : Ev) : Bool := if v.k = 1 then nameB v.nm.data.toList else decide (v.nm = tx0)
def defG (v : Ev) : Bool := if v.k = 0 then decide (v.sg = 0) && rightB v.dn v.dl v.ss else sameB v.dn tx0 v.dl 0 v.ss []
def replyG (v : Ev) : Bool := if v.k = 3 then decide (0 ≤ v.r.sg) && decide (0 ≤ v.r.sp) && decide (0 ≤ v.r.tr) else eqRp v.r rp0
def kindG (k : Int) : Bool := decide (0 ≤ k) && decide (k ≤ 10)
def goodE (v : Ev) : Bool := kindG v.k && (decide (0 ≤ v.now) && decide (v.now ≤ 1099511627776)) && decide (0 ≤ v.sg) && nameG v && defG v && replyG v
section
variable (l : List UInt8)
def evK : Nat := numQ l zeroP
/-- the reader behind the three numbers -/
def ev3 : Ps := numS l (numS l (numS l zeroP))
def evS : Ps := if evK l = 0 then defS l (ev3 l) else if evK l = 1 then txtS l (ev3 l) else if evK l = 3 then replyS l (ev3 l) else ev3 l
def evV : Ev := ⟨evK l, numQ l (numS l zeroP), numQ l (numS l (numS l zeroP)), if evK l = 1 then txtQ l (ev3 l) else tx0, if evK l = 3 then replyQ l (ev3 l) else rp0,
  if evK l = 0 then txtQ l (ev3 l) else tx0, if evK l = 0 then numQ l (txtS l (ev3 l)) else 0, if evK l = 0 then defSs l (ev3 l) else []⟩
def evE : Ps := endS l (evS l)
/-- what is taken, the place, and the error -/
def evA : Ev × Nat × Nat := if 10 < evK l then (ev0, 0, 11) else if (evE l).e ≠ 0 then (ev0, (evE l).o, (evE l).e) else if goodE (evV l) = false then (ev0, 0, 11) else (evV l, 0, 0)
end
def clE (v : Ev) : Ev := ⟨clp v.k, clp v.now, clp v.sg, v.nm, if v.k = 3 then clR v.r else v.r, v.dn, v.dl, v.ss⟩
theorem evA_ok {l : List UInt8} (h : (evA l).2.2 = 0) : ¬ 10 < evK l ∧ (evE l).e = 0 ∧ goodE (evV l) = true ∧ evA l = (evV l, 0, 0) := by
  unfold evA at h ⊢
  by_cases h1 : 10 < evK l
  · rw [if_pos h1] at h; cases h
  · rw [if_neg h1] at h ⊢
    by_cases h2 : (evE l).e ≠ 0
    · rw [if_pos h2] at h; exact absurd h h2
    · rw [if_neg h2] at h ⊢
      by_cases h3 : goodE (evV l) = false
      · rw [if_pos h3] at h; cases h
      · rw [if_neg h3]
        exact ⟨h1, by omega, by simpa using h3, rfl⟩
theorem evA_yes {l : List UInt8} (h1 : ¬ 10 < evK l) (h2 : (evE l).e = 0) (h3 : goodE (evV l) = true) : evA l = (evV l, 0, 0) := by
  unfold evA
  rw [if_neg h1, if_neg (by omega), if_neg (by rw [h3]; decide)]
theorem ev_back (l : List UInt8) : Back l zeroP (evS l) (eventF (evV l)) := by
  unfold eventF
  have h3 := (num_back (l := l) zeroP).trans ((num_back (l := l) (numS l zeroP)).trans (num_back (l := l) (numS l (numS l zeroP))))
  have hh : ∀ M, Back l (ev3 l) (evS l) M → Back l zeroP (evS l) (nF (evV l).k ++ (nF (evV l).now ++ (nF (evV l).sg ++ M))) := fun M h => by
    have := h3.trans h
    rw [List.append_assoc, List.append_assoc] at this
    exact this
  have hk : (evV l).k = (evK l : Int) := rfl
  by_cases k0 : evK l = 0
  · have e1 : evS l = defS l (ev3 l) := by unfold evS; rw [if_pos k0]
    have e2 : restF (evV l) = defF (txtQ l (ev3 l)) (numQ l (txtS l (ev3 l))) (defSs l (ev3 l)) := by
      unfold restF
      rw [hk, k0, if_pos (by rfl)]
      unfold evV
      simp only [k0, if_true]
    rw [e2]
    exact hh _ (by rw [e1]; exact def_back _)
  · by_cases k1 : evK l = 1
    · have e1 : evS l = txtS l (ev3 l) := by unfold evS; rw [if_neg k0, if_pos k1]
      have e2 : restF (evV l) = tF (txtQ l (ev3 l)) := by
        unfold restF
        rw [hk, k1, if_neg (by decide), if_pos (by rfl)]
        unfold evV
        simp only [k1, if_true]
      rw [e2]
      exact hh _ (by rw [e1]; exact txt_back _)
    · by_cases k3 : evK l = 3
      · have e1 : evS l = replyS l (ev3 l) := by unfold evS; rw [if_neg k0, if_neg k1, if_pos k3]
        have e2 : restF (evV l) = replyF (replyQ l (ev3 l)) := by
          unfold restF
          rw [hk, k3, if_neg (by decide), if_neg (by decide), if_pos (by rfl)]
          unfold evV
          simp only [k3, if_true]
        rw [e2]
        exact hh _ (by rw [e1]; exact reply_back _)
      · have e1 : evS l = ev3 l := by unfold evS; rw [if_neg k0, if_neg k1, if_neg k3]
        have e2 : restF (evV l) = [] := by
          unfold restF
          rw [hk, if_neg (by omega), if_neg (by omega), if_neg (by omega)]
        rw [e2, List.append_nil, e1]
        exact h3
theorem ev_whole {l : List UInt8} (h : (evE l).e = 0) : l = eventF (evV l) := whole (ev_back l) h
/-- texts and steps that a form may have -/
def Ev.Fits (v : Ev) : Prop := v.nm.size ≤ 256 ∧ v.dn.size ≤ 256 ∧ ∀ x ∈ v.ss, x.nm.size ≤ 256 ∧ x.pt.size ≤ 256
theorem good_parts {v : Ev} (h : goodE v = true) : (0 ≤ v.k ∧ v.k ≤ 10) ∧ (0 ≤ v.now ∧ v.now ≤ 1099511627776) ∧ 0 ≤ v.sg ∧ nameG v = true ∧ defG v = true ∧ replyG v = true := by
  unfold goodE kindG at h
  simp only [Bool.and_eq_true, decide_eq_true_eq] at h
  obtain ⟨⟨⟨⟨⟨h1, h2⟩, h3⟩, h4⟩, h5⟩, h6⟩ := h
  exact ⟨h1, h2, h3, h4, h5, h6⟩
theorem same_nil {v : Ev} (h : defG v = true) (hk : v.k ≠ 0) : v.dn = tx0 ∧ v.dl = 0 ∧ v.ss = [] := by
  unfold defG at h
  rw [if_neg hk] at h
  unfold sameB at h
  simp only [Bool.and_eq_true, decide_eq_true_eq] at h
  exact h
/-- a right event's form is taken: as it was, but for numbers that are too great -/
theorem ev_fort {l : List UInt8} {v : Ev} (hg : goodE v = true) (hf : v.Fits) (h : Has l 0 (eventF v)) : evS l = at0 (eventF v).length ∧ evV l = clE v ∧ ¬ 10 < evK l := by
  obtain ⟨⟨k0, k10⟩, ⟨n0, n1⟩, _, hn, hd, hr⟩ := good_parts hg
  obtain ⟨f1, f2, f3⟩ := hf
  have hck := clp_id k0 (by omega)
  unfold eventF at h
  obtain ⟨a1, a2⟩ := num_fort h.left
  have h2 := h.right
  obtain ⟨b1, b2⟩ := num_fort h2.left
  have h2 := h2.right
  obtain ⟨c1, c2⟩ := num_fort h2.left
  have h4 := h2.right
  simp only [nF_len] at b1 b2 c1 c2 h4
  have hK : evK l = clp v.k := a2
  have hK' : (evK l : Int) = v.k := by rw [hK, hck]
  have h3 : ev3 l = at0 24 := by
    unfold ev3 zeroP
    rw [a1, b1, c1]
  have hN : numQ l (numS l zeroP) = clp v.now := by unfold zeroP; rw [a1, b2]
  have hS : numQ l (numS l (numS l zeroP)) = clp v.sg := by unfold zeroP; rw [a1, b1, c2]
  have hL : (eventF v).length = 24 + (restF v).length := by
    unfold eventF
    simp only [List.length_append, nF_len]
    omega
  refine ⟨?_, ?_, by omega⟩
  · unfold evS
    rw [h3, hL]
    unfold restF at h4 ⊢
    by_cases q0 : v.k = 0
    · rw [if_pos q0] at h4 ⊢
      rw [if_pos (by omega)]
      have hb : rightB v.dn v.dl v.ss = true := by
        unfold defG at hd
        rw [if_pos q0, Bool.and_eq_true] at hd
        exact hd.2
      exact (def_fort f2 f3 (right_parts hb).2.2.1 h4).1
    · rw [if_neg q0] at h4 ⊢
      rw [if_neg (by omega)]
      by_cases q1 : v.k = 1
      · rw [if_pos q1] at h4 ⊢
        rw [if_pos (by omega)]
        exact (txt_fort f1 h4).1
      · rw [if_neg q1] at h4 ⊢
        rw [if_neg (by omega)]
        by_cases q3 : v.k = 3
        · rw [if_pos q3] at h4 ⊢
          rw [if_pos (by omega)]
          exact (reply_fort h4).1
        · rw [if_neg q3] at h4 ⊢
          rw [if_neg (by omega)]
          rfl
  · unfold evV clE
    rw [h3, hN, hS, hK]
    rw [hK] at hK'
    unfold restF at h4
    have hc0 : clp v.k = 0 ↔ v.k = 0 := by omega
    have hc1 : clp v.k = 1 ↔ v.k = 1 := by omega
    have hc3 : clp v.k = 3 ↔ v.k = 3 := by omega
    simp only [hc0, hc1, hc3]
    by_cases q0 : v.k = 0
    · rw [if_pos q0] at h4
      have hb : rightB v.dn v.dl v.ss = true := by
        unfold defG at hd
        rw [if_pos q0, Bool.and_eq_true] at hd
        exact hd.2
      obtain ⟨_, d2, d3, d4⟩ := def_fort f2 f3 (right_parts hb).2.2.1 h4
      obtain ⟨g1, g2⟩ := right_cl hb
      have e1 : v.nm = tx0 := by unfold nameG at hn; rw [if_neg (by omega)] at hn; exact of_decide_eq_true hn
      have e2 : v.r = rp0 := by unfold replyG at hr; rw [if_neg (by omega)] at hr; exact eqRp_iff.1 hr
      rw [if_neg (by omega), if_neg (by omega), if_pos q0, if_pos q0, if_pos q0, if_neg (by omega)]
      rw [show (0 + 8 + 8 + 8) = 24 from rfl] at d2 d3 d4
      rw [d2, d3, d4, g1, g2, e1, e2]
    · rw [if_neg q0] at h4
      obtain ⟨e1, e2, e3⟩ := same_nil hd q0
      rw [if_neg q0, if_neg q0, if_neg q0, e1, e2, e3]
      by_cases q1 : v.k = 1
      · rw [if_pos q1] at h4
        have e2 : v.r = rp0 := by unfold replyG at hr; rw [if_neg (by omega)] at hr; exact eqRp_iff.1 hr
        rw [if_pos q1, if_neg (by omega), if_neg (by omega), (txt_fort f1 h4).2, e2]
      · rw [if_neg q1] at h4
        have e1 : v.nm = tx0 := by unfold nameG at hn; rw [if_neg q1] at hn; exact of_decide_eq_true hn
        rw [if_neg q1, e1]
        by_cases q3 : v.k = 3
        · rw [if_pos q3] at h4
          rw [if_pos q3, if_pos q3, (reply_fort h4).2]
        · have e2 : v.r = rp0 := by unfold replyG at hr; rw [if_neg q3] at hr; exact eqRp_iff.1 hr
          rw [if_neg q3, if_neg q3, e2]
theorem good_cl {v : Ev} (h : goodE v = true) : goodE (clE v) = true := by
  obtain ⟨⟨k0, k10⟩, ⟨n0, n1⟩, s0, hn, hd, hr⟩ := good_parts h
  have e1 : (clE v).k = v.k := clp_id k0 (by omega)
  have e2 : (clE v).now = v.now := clp_id n0 (by omega)
  have e3 : 0 ≤ (clE v).sg := (clp_int v.sg).1
  have hN : nameG (clE v) = true := by unfold nameG at hn ⊢; rw [e1]; exact hn
  have hD : defG (clE v) = true := by
    unfold defG at hd ⊢
    rw [e1]
    by_cases q : v.k = 0
    · rw [if_pos q] at hd ⊢
      rw [Bool.and_eq_true, decide_eq_true_eq] at hd
      have hz : (clE v).sg = v.sg := clp_id s0 (by omega)
      rw [hz, Bool.and_eq_true, decide_eq_true_eq]
      exact hd
    · rw [if_neg q] at hd ⊢
      exact hd
  have hR : replyG (clE v) = true := by
    unfold replyG at hr ⊢
    rw [e1]
    by_cases q : v.k = 3
    · rw [if_pos q]
      have : (clE v).r = clR v.r := by unfold clE; simp only [q, if_true]
      rw [this]
      simp only [Bool.and_eq_true, decide_eq_true_eq]
      exact ⟨⟨(clp_int _).1, (clp_int _).1⟩, (clp_int _).1⟩
    · rw [if_neg q] at hr ⊢
      have : (clE v).r = v.r := by unfold clE; simp only [q, if_false]
      rw [this]
      exact hr
  unfold goodE kindG
  rw [e1, e2, hN, hD, hR]
  simp only [Bool.and_true, Bool.and_eq_true, decide_eq_true_eq]
  exact ⟨⟨⟨k0, k10⟩, n0, n1⟩, e3⟩
theorem ev_put {v : Ev} (hg : goodE v = true) (hf : v.Fits) : evA (eventF v) = (clE v, 0, 0) := by
  obtain ⟨h1, h2, h3⟩ := ev_fort hg hf (Has.self _)
  have hE : (evE (eventF v)).e = 0 := by
    unfold evE
    rw [h1, end_fort]
    rfl
  have h4 := evA_yes h3 hE (by rw [h2]; exact good_cl hg)
  rw [h4, h2]
theorem clE_id {v : Ev} (hg : goodE v = true) (h : v.sg ≤ 4611686018427387904 ∧ v.r.sg ≤ 4611686018427387904 ∧ v.r.sp ≤ 4611686018427387904 ∧ v.r.tr ≤ 4611686018427387904) : clE v = v := by
  obtain ⟨⟨k0, k10⟩, ⟨n0, n1⟩, s0, hn, hd, hr⟩ := good_parts hg
  have hR : (if v.k = 3 then clR v.r else v.r) = v.r := by
    by_cases q : v.k = 3
    · rw [if_pos q]
      unfold replyG at hr
      rw [if_pos q] at hr
      simp only [Bool.and_eq_true, decide_eq_true_eq] at hr
      unfold clR
      rw [clp_id hr.1.1 h.2.1, clp_id hr.1.2 h.2.2.1, clp_id hr.2 h.2.2.2]
    · rw [if_neg q]
  unfold clE
  rw [hR, clp_id k0 (by omega), clp_id n0 (by omega), clp_id s0 h.1]
theorem fits_taken (l : List UInt8) : (evV l).Fits := by
  refine ⟨?_, ?_, fun x hx => ?_⟩
  · show (if evK l = 1 then txtQ l (ev3 l) else tx0).size ≤ 256
    split
    · exact (txtQ_size _).1
    · decide
  · show (if evK l = 0 then txtQ l (ev3 l) else tx0).size ≤ 256
    split
    · exact (txtQ_size _).1
    · decide
  · have hx' : x ∈ (if evK l = 0 then defSs l (ev3 l) else []) := hx
    split at hx'
    · exact steps_fit _ _ x hx'
    · cases hx'
/-- a beginning of a right event's form is none's form -/
theorem ev_cut {v : Ev} (hg : goodE v = true) (hf : v.Fits) {m : Nat} (hm : m < (eventF v).length) : (evA ((eventF v).take m)).2.2 ≠ 0 := fun h => by
  obtain ⟨_, h2, h3, _⟩ := evA_ok h
  have hw := ev_whole h2
  have hH : Has (eventF v) 0 (eventF (evV ((eventF v).take m))) := by
    rw [← hw]
    exact ⟨[], (eventF v).drop m, by simp, rfl⟩
  have e1 := (ev_fort hg hf (Has.self _)).1
  have e2 := (ev_fort h3 (fits_taken _) hH).1
  rw [e1] at e2
  have e3 : (eventF v).length = (eventF (evV ((eventF v).take m))).length := congrArg Ps.p e2
  rw [← hw, List.length_take] at e3
  omega
/-- with a byte behind it neither -/
theorem ev_more {v : Ev} (hg : goodE v = true) (hf : v.Fits) (b : UInt8) : evA (eventF v ++ [b]) = (ev0, (eventF v).length, 3) := by
  obtain ⟨h1, _, h3⟩ := ev_fort hg hf ((Has.self (eventF v)).more [b])
  have hE : evE (eventF v ++ [b]) = ⟨(eventF v).length, (eventF v).length, 3⟩ := by
    unfold evE
    rw [h1]
    have hE : endE (eventF v ++ [b]) (eventF v).length = 3 := by unfold endE; rw [if_pos (by simp)]
    unfold endS at0
    simp only
    rw [hE]
    rfl
  unfold evA
  rw [if_neg h3, hE, if_pos (show (3 : Nat) ≠ 0 by decide)]
end Go.Proofs.Ytihkadbcjeohjaa.Co
