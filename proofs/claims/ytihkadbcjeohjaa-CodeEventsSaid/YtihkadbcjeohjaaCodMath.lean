/-
  Plain mathematics of forms and of a reader of them: what is put is taken as it was; what is taken has just that form.
  Conditions: as each theorem names them.
-/
import Derived.Test.YtihkadbcjeohjaaFldText
import Derived.Test.YtihkadbcjeohjaaFldBackMath
import Derived.Test.YtihkadbcjeohjaaSagMath
namespace Go.Proofs.Ytihkadbcjeohjaa.Co
open Go.Proofs.Ytihkadbcjeohjaa.Bo (P)
open Go.Proofs.Ytihkadbcjeohjaa.Df
open Go.Proofs.Ytihkadbcjeohjaa.Sa (Sg Rp)

/-! ### Forms -/
def nF (n : Int) : List UInt8 := num8 (clp n)
def tF (s : ByteArray) : List UInt8 := num8 s.size ++ s.data.toList
def fF (y : Bool) : List UInt8 := [if y then 1 else 0]
def numsF (ns : List Int) : List UInt8 := ns.flatMap nF
def planF (p : P) : List UInt8 := nF p.r ++ (nF p.b ++ (nF p.f ++ nF p.c))
def stepF (s : Stp) : List UInt8 := tF s.nm ++ (tF s.pt ++ (nF s.tm ++ (planF s.t ++ (planF s.u ++ nF s.pr))))
def stepsF (ss : List Stp) : List UInt8 := ss.flatMap stepF
def defF (nm : ByteArray) (dl : Int) (ss : List Stp) : List UInt8 := tF nm ++ (nF dl ++ (nF ss.length ++ stepsF ss))
def sagaF (s : Sg) : List UInt8 := nF s.id ++ (tF s.dn ++ (nF s.st ++ (nF s.ph ++ (nF s.sp ++ (nF s.tr ++ (fF s.out ++ (nF s.at_ ++ nF s.sk)))))))
def replyF (r : Rp) : List UInt8 := nF r.sg ++ (nF r.sp ++ (fF r.un ++ (nF r.tr ++ fF r.good)))
/-- an event -/
structure Ev where
  k : Int
  now : Int
  sg : Int
  nm : ByteArray
  r : Rp
  dn : ByteArray
  dl : Int
  ss : List Stp
def restF (v : Ev) : List UInt8 := if v.k = 0 then defF v.dn v.dl v.ss else if v.k = 1 then tF v.nm else if v.k = 3 then replyF v.r else []
def eventF (v : Ev) : List UInt8 := nF v.k ++ (nF v.now ++ (nF v.sg ++ restF v))
theorem nF_len (n : Int) : (nF n).length = 8 := rfl
theorem size_eq (s : ByteArray) : s.data.toList.length = s.size := Array.length_toList
theorem tF_len (s : ByteArray) : (tF s).length = 8 + s.size := by unfold tF; rw [List.length_append, num8_len, size_eq]
theorem fF_len (y : Bool) : (fF y).length = 1 := rfl
theorem planF_len (p : P) : (planF p).length = 32 := rfl
theorem stepF_len (s : Stp) : (stepF s).length = 96 + s.nm.size + s.pt.size := by
  unfold stepF
  simp only [List.length_append, tF_len, nF_len, planF_len]
  omega
theorem stepsF_cons (s : Stp) (ss : List Stp) : stepsF (s :: ss) = stepF s ++ stepsF ss := rfl
theorem stepsF_snoc (s : Stp) (ss : List Stp) : stepsF (ss ++ [s]) = stepsF ss ++ stepF s := by simp [stepsF]
theorem stepsF_len (ss : List Stp) : ss.length * 96 ≤ (stepsF ss).length := by
  induction ss with
  | nil => exact Nat.le_refl _
  | cons s ss ih => rw [stepsF_cons, List.length_append, stepF_len, List.length_cons]; omega
theorem stepsF_le (ss : List Stp) {m : Nat} (h : ∀ s ∈ ss, s.nm.size ≤ m ∧ s.pt.size ≤ m) : (stepsF ss).length ≤ ss.length * (96 + 2 * m) := by
  induction ss with
  | nil => exact Nat.zero_le _
  | cons s ss ih =>
    have h1 := h s (List.mem_cons_self ..)
    have h2 := ih fun x hx => h x (List.mem_cons_of_mem _ hx)
    rw [stepsF_cons, List.length_append, stepF_len, List.length_cons, Nat.add_mul]
    omega

/-! ### A reader -/
structure Ps where
  p : Nat
  o : Nat
  e : Nat
section
variable (l : List UInt8)
def numS (s : Ps) : Ps := ⟨nxP s.p s.e 8 (numE l s.p), nxO s.p s.o s.e (numE l s.p), nxE s.e (numE l s.p)⟩
def numQ (s : Ps) : Nat := numA l s.p s.e
def txtS (s : Ps) : Ps := ⟨nxP s.p s.e (8 + numN l s.p) (txtE l s.p 256), nxO s.p s.o s.e (txtE l s.p 256), nxE s.e (txtE l s.p 256)⟩
def txtQ (s : Ps) : ByteArray := ⟨(txtA l s.p s.e 256).toArray⟩
def flgS (s : Ps) : Ps := ⟨nxP s.p s.e 1 (flagE l s.p), nxO s.p s.o s.e (flagE l s.p), nxE s.e (flagE l s.p)⟩
def flgQ (s : Ps) : Bool := flagA l s.p s.e
def cntS (s : Ps) : Ps := ⟨nxP s.p s.e 8 (cntE l s.p 32 96), nxO s.p s.o s.e (cntE l s.p 32 96), nxE s.e (cntE l s.p 32 96)⟩
def cntQ (s : Ps) : Nat := cntA l s.p s.e 32 96
def endS (s : Ps) : Ps := ⟨nxP s.p s.e 0 (endE l s.p), nxO s.p s.o s.e (endE l s.p), nxE s.e (endE l s.p)⟩
def planS (s : Ps) : Ps := numS l (numS l (numS l (numS l s)))
def planQ (s : Ps) : P := ⟨numQ l s, numQ l (numS l s), numQ l (numS l (numS l s)), numQ l (numS l (numS l (numS l s)))⟩
def stepS (s : Ps) : Ps := numS l (planS l (planS l (numS l (txtS l (txtS l s)))))
def stepQ (s : Ps) : Stp := ⟨txtQ l s, txtQ l (txtS l s), numQ l (txtS l (txtS l s)), planQ l (numS l (txtS l (txtS l s))), planQ l (planS l (numS l (txtS l (txtS l s)))), numQ l (planS l (planS l (numS l (txtS l (txtS l s)))))⟩
def stepsS : Nat → Ps → Ps
  | 0, s => s
  | k + 1, s => stepsS k (stepS l s)
def stepsQ : Nat → Ps → List Stp
  | 0, _ => []
  | k + 1, s => stepQ l s :: stepsQ k (stepS l s)
theorem stepsS_snoc (k : Nat) : ∀ s, stepsS l (k + 1) s = stepS l (stepsS l k s) := by
  induction k with
  | zero => intro s; rfl
  | succ k ih => intro s; exact ih (stepS l s)
theorem stepsQ_snoc (k : Nat) : ∀ s, stepsQ l (k + 1) s = stepsQ l k s ++ [stepQ l (stepsS l k s)] := by
  induction k with
  | zero => intro s; rfl
  | succ k ih =>
    intro s
    show stepQ l s :: stepsQ l (k + 1) (stepS l s) = _
    rw [ih (stepS l s)]
    rfl
theorem stepsQ_len (k : Nat) : ∀ s, (stepsQ l k s).length = k := by
  induction k with
  | zero => intro s; rfl
  | succ k ih => intro s; show (stepsQ l k (stepS l s)).length + 1 = _; rw [ih]
/-- a definition's count, and the reader behind it -/
def defC (s : Ps) : Ps := cntS l (numS l (txtS l s))
def defN (s : Ps) : Nat := cntQ l (numS l (txtS l s))
def defS (s : Ps) : Ps := stepsS l (defN l s) (defC l s)
def defSs (s : Ps) : List Stp := stepsQ l (defN l s) (defC l s)
def sgS1 (s : Ps) : Ps := txtS l (numS l s)
def sgS2 (s : Ps) : Ps := planS l (sgS1 l s)
def sagaS (s : Ps) : Ps := numS l (numS l (flgS l (sgS2 l s)))
def sagaQ (s : Ps) : Sg := ⟨numQ l s, txtQ l (numS l s), (planQ l (sgS1 l s)).r, (planQ l (sgS1 l s)).b, (planQ l (sgS1 l s)).f, (planQ l (sgS1 l s)).c, flgQ l (sgS2 l s), numQ l (flgS l (sgS2 l s)), numQ l (numS l (flgS l (sgS2 l s)))⟩
def replyS (s : Ps) : Ps := flgS l (numS l (flgS l (numS l (numS l s))))
def replyQ (s : Ps) : Rp := ⟨numQ l s, numQ l (numS l s), flgQ l (numS l (numS l s)), numQ l (flgS l (numS l (numS l s))), flgQ l (numS l (flgS l (numS l (numS l s))))⟩
end

/-! ### What lies at a place -/
def Has (l : List UInt8) (p : Nat) (M : List UInt8) : Prop := ∃ X Y, l = X ++ (M ++ Y) ∧ X.length = p
section
variable {l : List UInt8} {p : Nat} {M N : List UInt8}
theorem Has.le (h : Has l p M) : p + M.length ≤ l.length := by
  obtain ⟨X, Y, rfl, rfl⟩ := h
  simp
theorem Has.left (h : Has l p (M ++ N)) : Has l p M := by
  obtain ⟨X, Y, rfl, rfl⟩ := h
  exact ⟨X, N ++ Y, by simp, rfl⟩
theorem Has.right (h : Has l p (M ++ N)) : Has l (p + M.length) N := by
  obtain ⟨X, Y, rfl, rfl⟩ := h
  exact ⟨X ++ M, Y, by simp, by simp⟩
theorem Has.app (h : Has l p M) (k : Has l (p + M.length) N) : Has l p (M ++ N) := by
  obtain ⟨X, Y, rfl, rfl⟩ := h
  obtain ⟨X', Y', e, hx⟩ := k
  have h1 : (X ++ M) ++ Y = X' ++ (N ++ Y') := by rw [← e]; simp
  obtain ⟨_, h3⟩ := List.append_inj h1 (by simp [hx])
  exact ⟨X, Y', by rw [h3]; simp, rfl⟩
theorem Has.all (h : Has l 0 M) (hl : l.length ≤ M.length) : l = M := by
  obtain ⟨X, Y, rfl, hx⟩ := h
  have h1 := List.eq_nil_of_length_eq_zero hx
  subst h1
  have h2 : Y = [] := List.eq_nil_of_length_eq_zero (by simp at hl; omega)
  subst h2
  simp
theorem Has.self (M : List UInt8) : Has M 0 M := ⟨[], [], by simp, rfl⟩
theorem Has.more (h : Has l p M) (T : List UInt8) : Has (l ++ T) p M := by
  obtain ⟨X, Y, rfl, rfl⟩ := h
  exact ⟨X, Y ++ T, by simp, rfl⟩
theorem has_cut (h : p + M.length ≤ l.length) (e : (l.drop p).take M.length = M) : Has l p M := by
  have h1 : l.drop p = M ++ l.drop (p + M.length) := by
    have := (List.take_append_drop M.length (l.drop p)).symm
    rw [e, List.drop_drop] at this
    exact this
  refine ⟨l.take p, l.drop (p + M.length), ?_, by simp; omega⟩
  rw [← h1, List.take_append_drop]
end

/-! ### What is put is taken -/
def at0 (p : Nat) : Ps := ⟨p, 0, 0⟩
theorem clp_int (n : Int) : 0 ≤ ((clp n : Nat) : Int) ∧ ((clp n : Nat) : Int) ≤ 4611686018427387904 := by have := clp_le n; omega
section
variable {l : List UInt8} {p : Nat}
theorem num_fort {n : Int} (h : Has l p (nF n)) : numS l (at0 p) = at0 (p + 8) ∧ numQ l (at0 p) = clp n := by
  obtain ⟨X, Y, rfl, rfl⟩ := h
  have h1 := numE_put X Y (clp n) (clp_le n)
  have h2 := numAt_put X Y (clp n) (by have := clp_le n; omega)
  unfold nF
  unfold numS numQ at0 numA
  simp only
  rw [h1, h2]
  exact ⟨rfl, rfl⟩
theorem txt_fort {s : ByteArray} (hs : s.size ≤ 256) (h : Has l p (tF s)) : txtS l (at0 p) = at0 (p + (tF s).length) ∧ txtQ l (at0 p) = s := by
  obtain ⟨X, Y, rfl, rfl⟩ := h
  have hl := size_eq s
  have hL : X ++ (tF s ++ Y) = X ++ (num8 s.size ++ (s.data.toList ++ Y)) := by unfold tF; rw [List.append_assoc]
  rw [hL, tF_len]
  have hE := numE_put X (s.data.toList ++ Y) s.size (by omega)
  have hN := numN_put X (s.data.toList ++ Y) s.size (by omega)
  have hT : txtE (X ++ (num8 s.size ++ (s.data.toList ++ Y))) X.length 256 = 0 := by
    unfold txtE
    rw [if_neg (by simpa using hE), hN, if_neg (by omega), if_neg (by simp only [List.length_append, num8_len, hl]; omega)]
  have hA : txtA (X ++ (num8 s.size ++ (s.data.toList ++ Y))) X.length 0 256 = s.data.toList := by
    rw [txtA_txt hT rfl, hN, ← hl]
    exact cut_put X Y s.data.toList s.data.toList.length
  unfold txtS txtQ at0
  simp only
  rw [hT, hA, hN]
  refine ⟨rfl, ?_⟩
  cases s
  rfl
theorem flg_fort {y : Bool} (h : Has l p (fF y)) : flgS l (at0 p) = at0 (p + 1) ∧ flgQ l (at0 p) = y := by
  obtain ⟨X, Y, rfl, rfl⟩ := h
  have hlt : X.length < (X ++ (fF y ++ Y)).length := by simp [fF]
  have hx : (X ++ (fF y ++ Y))[X.length]'hlt = if y then 1 else 0 := by simp [fF]
  have hE : flagE (X ++ (fF y ++ Y)) X.length = 0 := by
    unfold flagE
    rw [dif_pos hlt, hx]
    cases y <;> rfl
  have hB : flagB (X ++ (fF y ++ Y)) X.length = y := by
    unfold flagB
    rw [dif_pos hlt, hx]
    cases y <;> rfl
  unfold flgS flgQ flagA at0
  simp only
  rw [hE, hB]
  exact ⟨rfl, rfl⟩
theorem cnt_fort {n : Nat} (hn : n ≤ 32) (h : Has l p (nF n)) (hr : p + 8 + n * 96 ≤ l.length) : cntS l (at0 p) = at0 (p + 8) ∧ cntQ l (at0 p) = n := by
  obtain ⟨X, Y, rfl, rfl⟩ := h
  unfold nF at *
  rw [clp_of (by omega)] at *
  have h1 := numE_put X Y n (by omega)
  have h2 := numN_put X Y n (by omega)
  have hC : cntE (X ++ (num8 n ++ Y)) X.length 32 96 = 0 := by
    unfold cntE
    rw [if_neg (by simpa using h1), h2, if_neg (by omega), if_neg (by rw [if_neg (by omega)]; omega)]
  unfold cntS cntQ at0
  simp only
  rw [hC, cntA_num hC h1 rfl]
  exact ⟨rfl, h2⟩
theorem end_fort : endS l (at0 l.length) = at0 l.length := by
  have hE : endE l l.length = 0 := by unfold endE; rw [if_neg (by omega)]
  unfold endS at0
  simp only
  rw [hE]
  rfl
def clP (p : P) : P := ⟨clp p.r, clp p.b, clp p.f, clp p.c⟩
def clS (s : Stp) : Stp := ⟨s.nm, s.pt, clp s.tm, clP s.t, clP s.u, clp s.pr⟩
def clG (s : Sg) : Sg := ⟨clp s.id, s.dn, clp s.st, clp s.ph, clp s.sp, clp s.tr, s.out, clp s.at_, clp s.sk⟩
def clR (r : Rp) : Rp := ⟨clp r.sg, clp r.sp, r.un, clp r.tr, r.good⟩
theorem plan_fort {q : P} (h : Has l p (planF q)) : planS l (at0 p) = at0 (p + 32) ∧ planQ l (at0 p) = clP q := by
  unfold planF at h
  obtain ⟨a1, a2⟩ := num_fort h.left
  obtain ⟨b1, b2⟩ := num_fort h.right.left
  obtain ⟨c1, c2⟩ := num_fort h.right.right.left
  obtain ⟨d1, d2⟩ := num_fort h.right.right.right
  simp only [nF_len] at b1 b2 c1 c2 d1 d2
  unfold planS planQ clP
  rw [a1, b1, c1, d1, a2, b2, c2, d2]
  exact ⟨by rw [show p + 8 + 8 + 8 + 8 = p + 32 by omega], rfl⟩
theorem step_fort {x : Stp} (h1 : x.nm.size ≤ 256) (h2 : x.pt.size ≤ 256) (h : Has l p (stepF x)) : stepS l (at0 p) = at0 (p + (stepF x).length) ∧ stepQ l (at0 p) = clS x := by
  have hl : p + (stepF x).length = p + (tF x.nm).length + (tF x.pt).length + 8 + 32 + 32 + 8 := by rw [stepF_len, tF_len, tF_len]; omega
  rw [hl]
  unfold stepF at h
  obtain ⟨a1, a2⟩ := txt_fort h1 h.left
  obtain ⟨b1, b2⟩ := txt_fort h2 h.right.left
  obtain ⟨c1, c2⟩ := num_fort h.right.right.left
  obtain ⟨d1, d2⟩ := plan_fort h.right.right.right.left
  obtain ⟨e1, e2⟩ := plan_fort h.right.right.right.right.left
  obtain ⟨f1, f2⟩ := num_fort h.right.right.right.right.right
  simp only [nF_len, planF_len] at c1 c2 d1 d2 e1 e2 f1 f2
  unfold stepS stepQ clS
  rw [a1, b1, c1, d1, e1, f1, a2, b2, c2, d2, e2, f2]
  exact ⟨rfl, rfl⟩
theorem steps_fort : ∀ (ss : List Stp) (p : Nat), (∀ x ∈ ss, x.nm.size ≤ 256 ∧ x.pt.size ≤ 256) → Has l p (stepsF ss) → stepsS l ss.length (at0 p) = at0 (p + (stepsF ss).length) ∧ stepsQ l ss.length (at0 p) = ss.map clS := by
  intro ss
  induction ss with
  | nil => intro p _ _; exact ⟨rfl, rfl⟩
  | cons x ss ih =>
    intro p hs h
    rw [stepsF_cons] at h
    obtain ⟨a1, a2⟩ := step_fort (hs x (List.mem_cons_self ..)).1 (hs x (List.mem_cons_self ..)).2 h.left
    obtain ⟨b1, b2⟩ := ih _ (fun y hy => hs y (List.mem_cons_of_mem _ hy)) h.right
    show stepsS l ss.length (stepS l (at0 p)) = _ ∧ stepQ l (at0 p) :: stepsQ l ss.length (stepS l (at0 p)) = _
    rw [a1, a2, b1, b2, stepsF_cons, List.length_append]
    exact ⟨by rw [Nat.add_assoc], rfl⟩
theorem def_fort {nm : ByteArray} {dl : Int} {ss : List Stp} (h0 : nm.size ≤ 256) (hs : ∀ x ∈ ss, x.nm.size ≤ 256 ∧ x.pt.size ≤ 256) (hn : ss.length ≤ 32) (h : Has l p (defF nm dl ss)) :
    defS l (at0 p) = at0 (p + (defF nm dl ss).length) ∧ txtQ l (at0 p) = nm ∧ numQ l (txtS l (at0 p)) = clp dl ∧ defSs l (at0 p) = ss.map clS := by
  unfold defF at h
  have hle := h.right.right.right.le
  have hsl := stepsF_len ss
  obtain ⟨a1, a2⟩ := txt_fort h0 h.left
  obtain ⟨b1, b2⟩ := num_fort h.right.left
  have hc := h.right.right.left
  have hd := h.right.right.right
  simp only [nF_len] at hc hd b1 b2 hle
  obtain ⟨c1, c2⟩ := cnt_fort hn hc (by omega)
  obtain ⟨d1, d2⟩ := steps_fort ss _ hs hd
  unfold defS defSs defN defC
  rw [a1, a2, b1, b2, c1, c2, d1, d2]
  refine ⟨?_, rfl, rfl, rfl⟩
  unfold defF
  simp only [List.length_append, nF_len]
  rw [show p + (tF nm).length + 8 + 8 + (stepsF ss).length = p + ((tF nm).length + (8 + (8 + (stepsF ss).length))) by omega]
theorem saga_fort {x : Sg} (h0 : x.dn.size ≤ 256) (h : Has l p (sagaF x)) : sagaS l (at0 p) = at0 (p + (sagaF x).length) ∧ sagaQ l (at0 p) = clG x := by
  have hl : p + (sagaF x).length = p + 8 + (tF x.dn).length + 8 + 8 + 8 + 8 + 1 + 8 + 8 := by
    unfold sagaF
    simp only [List.length_append, nF_len, fF_len]
    omega
  rw [hl]
  unfold sagaF at h
  obtain ⟨a1, a2⟩ := num_fort h.left
  have h := h.right
  obtain ⟨b1, b2⟩ := txt_fort h0 h.left
  have h := h.right
  obtain ⟨c1, c2⟩ := num_fort h.left
  have h := h.right
  obtain ⟨d1, d2⟩ := num_fort h.left
  have h := h.right
  obtain ⟨e1, e2⟩ := num_fort h.left
  have h := h.right
  obtain ⟨f1, f2⟩ := num_fort h.left
  have h := h.right
  obtain ⟨g1, g2⟩ := flg_fort h.left
  have h := h.right
  obtain ⟨i1, i2⟩ := num_fort h.left
  have h := h.right
  obtain ⟨j1, j2⟩ := num_fort h
  simp only [nF_len, fF_len] at a1 a2 b1 b2 c1 c2 d1 d2 e1 e2 f1 f2 g1 g2 i1 i2 j1 j2
  unfold sagaS sagaQ sgS2 sgS1 clG planS planQ
  simp only [a1, b1, c1, d1, e1, f1, g1, i1, j1, a2, b2, c2, d2, e2, f2, g2, i2, j2, and_self]
theorem reply_fort {x : Rp} (h : Has l p (replyF x)) : replyS l (at0 p) = at0 (p + 26) ∧ replyQ l (at0 p) = clR x := by
  unfold replyF at h
  obtain ⟨a1, a2⟩ := num_fort h.left
  have h := h.right
  obtain ⟨b1, b2⟩ := num_fort h.left
  have h := h.right
  obtain ⟨c1, c2⟩ := flg_fort h.left
  have h := h.right
  obtain ⟨d1, d2⟩ := num_fort h.left
  have h := h.right
  obtain ⟨e1, e2⟩ := flg_fort h
  simp only [nF_len, fF_len] at a1 a2 b1 b2 c1 c2 d1 d2 e1 e2
  unfold replyS replyQ clR
  simp only [a1, b1, c1, d1, e1, a2, b2, c2, d2, e2, and_true]
end

/-! ### What is taken has that form -/
def Back (l : List UInt8) (s t : Ps) (M : List UInt8) : Prop := t.e = 0 → s.e = 0 ∧ t.p = s.p + M.length ∧ Has l s.p M
theorem Back.trans {l : List UInt8} {s t u : Ps} {M N : List UInt8} (h : Back l s t M) (k : Back l t u N) : Back l s u (M ++ N) := fun hu => by
  obtain ⟨h1, h2, h3⟩ := k hu
  obtain ⟨g1, g2, g3⟩ := h h1
  rw [g2] at h3
  exact ⟨g1, by rw [List.length_append, h2, g2]; omega, g3.app h3⟩
theorem nxE_zero {a b : Nat} (h : nxE a b = 0) : a = 0 ∧ b = 0 := by
  unfold nxE at h
  by_cases ha : a = 0
  · rw [if_pos ha] at h; exact ⟨ha, h⟩
  · rw [if_neg ha] at h; exact absurd h ha
theorem num8_numV (M : List UInt8) (h : M.length = 8) : num8 (numV M) = M := by
  match M, h with
  | [a, b, c, d, e, f, g, i], _ =>
    have ha := UInt8.toNat_lt a
    have hb := UInt8.toNat_lt b
    have hc := UInt8.toNat_lt c
    have hd := UInt8.toNat_lt d
    have he := UInt8.toNat_lt e
    have hf := UInt8.toNat_lt f
    have hg := UInt8.toNat_lt g
    have hi := UInt8.toNat_lt i
    have q : ∀ (x : UInt8) (n : Nat), n % 256 = x.toNat → UInt8.ofNat n = x := fun x n h => UInt8.toNat_inj.1 (by rw [UInt8.toNat_ofNat']; exact h)
    have hv : numV [a, b, c, d, e, f, g, i] = ((((((a.toNat * 256 + b.toNat) * 256 + c.toNat) * 256 + d.toNat) * 256 + e.toNat) * 256 + f.toNat) * 256 + g.toNat) * 256 + i.toNat := by
      simp only [numV, List.foldl_cons, List.foldl_nil]
      omega
    rw [hv]
    simp only [num8, List.cons.injEq, and_true]
    refine ⟨q _ _ ?_, q _ _ ?_, q _ _ ?_, q _ _ ?_, q _ _ ?_, q _ _ ?_, q _ _ ?_, q _ _ ?_⟩ <;> omega
section
variable {l : List UInt8}
theorem num_at (s : Ps) (he : s.e = 0) (h : numE l s.p = 0) : numQ l s = numAt l s.p ∧ s.p + 8 ≤ l.length ∧ Has l s.p (num8 (numAt l s.p)) ∧ numAt l s.p ≤ 4611686018427387904 := by
  have h8 := numE_len h
  have h4 : numAt l s.p ≤ 4611686018427387904 := by rcases numE_cases l s.p with ⟨h1, _⟩ | ⟨h1, _⟩ | ⟨_, _, h2⟩ <;> omega
  have hM : ((l.drop s.p).take 8).length = 8 := by simp; omega
  have hq : num8 (numAt l s.p) = (l.drop s.p).take 8 := num8_numV _ hM
  refine ⟨by unfold numQ numA; rw [he, h]; rfl, h8, has_cut (by rw [num8_len]; omega) ?_, h4⟩
  rw [num8_len, hq]
theorem num_back (s : Ps) : Back l s (numS l s) (nF (numQ l s)) := fun h => by
  obtain ⟨h1, h2⟩ := nxE_zero h
  obtain ⟨q1, q2, q3, q4⟩ := num_at s h1 h2
  refine ⟨h1, ?_, ?_⟩
  · show nxP s.p s.e 8 (numE l s.p) = _
    rw [h1, h2, nF_len]
    rfl
  · unfold nF
    rw [q1, clp_of q4]
    exact q3
theorem txt_zero {s : Ps} (h : txtE l s.p 256 = 0) : numE l s.p = 0 ∧ numN l s.p ≤ 256 ∧ s.p + 8 + numN l s.p ≤ l.length := by
  unfold txtE at h
  by_cases h1 : numE l s.p = 0
  · rw [if_neg (by simpa using h1)] at h
    have h8 := numE_len h1
    split at h
    · cases h
    · split at h
      · cases h
      · exact ⟨h1, by omega, by omega⟩
  · rw [if_pos h1] at h; exact absurd h h1
theorem txtQ_size (s : Ps) : (txtQ l s).size ≤ 256 ∧ (txtQ l s).size ≤ l.length := by
  have e : (txtQ l s).size = (txtA l s.p s.e 256).length := by
    show (txtA l s.p s.e 256).toArray.size = _
    simp
  rw [e]
  unfold txtA
  by_cases h : okB s.e (txtE l s.p 256) = true
  · rw [if_pos h]
    obtain ⟨_, h2, h3⟩ := txt_zero (ok_of h).2
    rw [List.length_take, List.length_drop]
    omega
  · rw [if_neg h]
    exact ⟨Nat.zero_le _, Nat.zero_le _⟩
theorem txt_back (s : Ps) : Back l s (txtS l s) (tF (txtQ l s)) := fun h => by
  obtain ⟨h1, h2⟩ := nxE_zero h
  obtain ⟨q1, q2, q3⟩ := txt_zero h2
  obtain ⟨_, _, r3, _⟩ := num_at s h1 q1
  have hA : txtA l s.p s.e 256 = (l.drop (s.p + 8)).take (numN l s.p) := txtA_txt h2 (by rw [h1]; rfl)
  have hl : ((l.drop (s.p + 8)).take (numN l s.p)).length = numN l s.p := by simp; omega
  have hs : (txtQ l s).size = numN l s.p := by
    show (txtA l s.p s.e 256).toArray.size = _
    rw [hA, List.size_toArray, hl]
  have hd : (txtQ l s).data.toList = (l.drop (s.p + 8)).take (numN l s.p) := by
    show (txtA l s.p s.e 256).toArray.toList = _
    rw [hA]
  refine ⟨h1, ?_, ?_⟩
  · show nxP s.p s.e (8 + numN l s.p) (txtE l s.p 256) = _
    rw [h1, h2, tF_len, hs]
    rfl
  · unfold tF
    rw [hs, hd, numN_of q1]
    rw [numN_of q1] at hl q3
    exact r3.app (has_cut (by rw [num8_len, hl]; omega) (by rw [num8_len, hl]))
theorem flg_back (s : Ps) : Back l s (flgS l s) (fF (flgQ l s)) := fun h => by
  obtain ⟨h1, h2⟩ := nxE_zero h
  have hlt : s.p < l.length := by
    unfold flagE at h2
    by_cases h3 : s.p < l.length
    · exact h3
    · rw [dif_neg h3] at h2; cases h2
  have h2' := h2
  unfold flagE at h2
  rw [dif_pos hlt] at h2
  have hb : flgQ l s = (l[s.p] == 1) := by unfold flgQ flagA flagB; rw [h1, h2', dif_pos hlt]; rfl
  refine ⟨h1, ?_, has_cut (by rw [fF_len]; omega) ?_⟩
  · show nxP s.p s.e 1 (flagE l s.p) = _
    rw [h1, h2']
    rfl
  · rw [fF_len, List.drop_eq_getElem_cons hlt]
    show [l[s.p]] = _
    unfold fF
    rw [hb]
    split at h2
    · next h3 =>
      rcases h3 with h3 | h3 <;> rw [h3] <;> rfl
    · cases h2
theorem cnt_zero {s : Ps} (h : cntE l s.p 32 96 = 0) : numE l s.p = 0 ∧ numN l s.p ≤ 32 := by
  unfold cntE at h
  by_cases h1 : numE l s.p = 0
  · rw [if_neg (by simpa using h1)] at h
    split at h
    · cases h
    · exact ⟨h1, by omega⟩
  · rw [if_pos h1] at h; exact absurd h h1
theorem cntQ_le (s : Ps) : cntQ l s ≤ 32 := by
  unfold cntQ cntA
  by_cases h : okB s.e (cntE l s.p 32 96) = true
  · rw [if_pos h]
    obtain ⟨h1, h2⟩ := cnt_zero (ok_of h).2
    rw [numN_of h1] at h2
    exact h2
  · rw [if_neg h]
    exact Nat.zero_le _
theorem cnt_back (s : Ps) : Back l s (cntS l s) (nF (cntQ l s)) := fun h => by
  obtain ⟨h1, h2⟩ := nxE_zero h
  obtain ⟨q1, _⟩ := cnt_zero h2
  obtain ⟨_, r2, r3, r4⟩ := num_at s h1 q1
  have hq : cntQ l s = numAt l s.p := by unfold cntQ; rw [cntA_num h2 q1 (by rw [h1]; rfl), numN_of q1]
  refine ⟨h1, ?_, ?_⟩
  · show nxP s.p s.e 8 (cntE l s.p 32 96) = _
    rw [h1, h2, nF_len]
    rfl
  · unfold nF
    rw [hq, clp_of r4]
    exact r3
theorem plan_back (s : Ps) : Back l s (planS l s) (planF (planQ l s)) := (num_back s).trans ((num_back _).trans ((num_back _).trans (num_back _)))
theorem step_back (s : Ps) : Back l s (stepS l s) (stepF (stepQ l s)) := (txt_back s).trans ((txt_back _).trans ((num_back _).trans ((plan_back _).trans ((plan_back _).trans (num_back _)))))
theorem steps_back : ∀ (k : Nat) (s t : Ps) (M : List UInt8), Back l t s M → Back l t (stepsS l k s) (M ++ stepsF (stepsQ l k s)) := by
  intro k
  induction k with
  | zero => intro s t M h; rw [show stepsF (stepsQ l 0 s) = [] from rfl, List.append_nil]; exact h
  | succ k ih =>
    intro s t M h
    have := ih _ _ _ (h.trans (step_back s))
    rw [List.append_assoc] at this
    exact this
theorem def_back (s : Ps) : Back l s (defS l s) (defF (txtQ l s) (numQ l (txtS l s)) (defSs l s)) := by
  unfold defF
  rw [show (defSs l s).length = defN l s from stepsQ_len l _ _]
  have := steps_back (defN l s) _ _ _ ((txt_back s).trans ((num_back _).trans (cnt_back (numS l (txtS l s)))))
  rw [List.append_assoc, List.append_assoc] at this
  exact this
theorem steps_fit : ∀ (k : Nat) (s : Ps), ∀ x ∈ stepsQ l k s, x.nm.size ≤ 256 ∧ x.pt.size ≤ 256 := by
  intro k
  induction k with
  | zero => intro s x hx; cases hx
  | succ k ih =>
    intro s x hx
    rcases List.mem_cons.1 hx with rfl | hx
    · exact ⟨(txtQ_size _).1, (txtQ_size _).1⟩
    · exact ih _ x hx
theorem saga_back (s : Ps) : Back l s (sagaS l s) (sagaF (sagaQ l s)) :=
  (num_back s).trans ((txt_back _).trans ((num_back _).trans ((num_back _).trans ((num_back _).trans ((num_back _).trans ((flg_back _).trans ((num_back _).trans (num_back _))))))))
theorem reply_back (s : Ps) : Back l s (replyS l s) (replyF (replyQ l s)) := (num_back s).trans ((num_back _).trans ((flg_back _).trans ((num_back _).trans (flg_back _))))
end
end Go.Proofs.Ytihkadbcjeohjaa.Co
