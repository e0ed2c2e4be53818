/-
  What the store's Free and Names answer.
  Conditions: the store is one.
-/
import Derived.Test.YtohnhboeipckjaaGreatDoorStoLook
import Derived.Test.YtohnhboeipckjaaGreatDoorIter
import Derived.LoopTactic
import Derived.CallsIn
import Derived.WalkIn
import Derived.TacticsIn
import Derived.TacticsInMore
namespace Go.Proofs.YtohnhboeipckjaaGreatDoor
open Go.RowKit Go.Maps

theorem Raw.form {w : World} {g bm : Nat} {X : Nat → Prop} {rs : List RF} {cap fuse : Nat} {down : Bool} (h : Raw w g X bm rs cap fuse down) {r : RF} (hr : r ∈ rs) : ∃ A c, r.v = .slice A r.fl.bs.length c ∧ r.fl.bs.length ≤ c := by
  obtain ⟨A, c, h1, h2⟩ := own_form (h.own r hr).1
  exact ⟨A, c, h1, h2⟩
/-- the next entry of a range over the files -/
theorem wpList_next_files (w : World) {ops : Array Oper} {rest : List Oper} {o : Oper} {a : Act} {Q : Exit → Act → World → Prop} (hg : o.guard = none) (it : Operand) (hop : o.op = Op.next it false) {es : List (Lit × DataW Value)} {rs : List RF} (hp : es.Perm (rs.map ent)) (hr : Rise RF.nm rs)
    (hform : ∀ q ∈ rs, ∃ A c, q.v = .slice A q.fl.bs.length c) (b r n : Nat) (left : Lit → Bool) (cnt : Nat) (hit : a.eval it = .pointer (some ⟨r, 0, none⟩)) (h : w.ranges Tryz.prog 9 rawElem b r n (.map es) left cnt)
    (hDone : (∀ kl, left kl = false) → wpList Tryz.prog ops Q rest (a.put o.dst (.tuple #[.bool false])) w)
    (hMore : ∀ (s : ByteArray) (q : RF) (A : Option Addr) (m c : Nat) (sf : Int) (sy : Bool) (w' : World) (cnt' : Nat), q ∈ rs → left (.string q.fl.name) = true → m = q.fl.bs.length → w'.ranges Tryz.prog 9 rawElem b r n (.map es) (fun z => left z && !z.sameKey (.string q.fl.name)) cnt' → cnt' < cnt →
      w.grownBy w' (some r) → (Instr.entry (.pointer (some ⟨r, 0, none⟩))).run Tryz.prog w' = .ok (.tuple #[.string s, .agg #[.slice A m c, .int .i64 sf, .bool sy]]) w' → wpList Tryz.prog ops Q rest (a.put o.dst (.tuple #[.bool true, .string s, .agg #[.slice A m c, .int .i64 sf, .bool sy]])) w') :
    wpList Tryz.prog ops Q (o :: rest) a w := by
  refine wpList_next_ranges w hg it hop 9 lawK rawElem encStr id (fun key kl hk => by obtain ⟨x, hx, _⟩ := Maps.keyOf_str Tryz.underlying9 hk; exact ⟨x, hx⟩) (fun v _ _ => ⟨v, rfl⟩) b r n _ left cnt hit h (fun _ hl => hDone hl) ?_
  intro x v kl y w' cnt' hkey hlk hv hat hrg hlt hgr _ hen
  obtain ⟨x', hx', rfl, _⟩ := Maps.keyOf_str Tryz.underlying9 hkey
  obtain rfl := encStr_inj hx'
  have e := hat (.held (fileV (.slice none 0 0) 0 false))
  rw [at_ent hp hr] at e
  obtain ⟨d, ps⟩ := y
  have e2 := rawElem_inv hv
  simp only at e
  rw [e2] at e
  have hhas : Maps.has (.map es) (.string x) = true := has_true_of_atKey hat
  rw [has_ent hp] at hhas
  cases hl : lookBy RF.nm x rs with
  | none => rw [hl] at hhas; cases hhas
  | some q =>
    rw [hl] at e
    have e3 := DataW.held.inj e
    obtain ⟨hq, hn⟩ := lookBy_some hl
    obtain ⟨A, c, hf⟩ := hform q hq
    have e4 : v = .agg #[.slice A q.fl.bs.length c, .int .i64 (q.fl.safe : Int), .bool q.fl.stays] := by
      have : v = id v := rfl
      rw [this, ← e3, hf]
      rfl
    subst e4
    have hn' : q.fl.name = x := hn
    subst hn'
    exact hMore _ q A _ c _ _ w' cnt' hq hlk rfl hrg hlt hgr hen

theorem free_down (g bm : Nat) (X : Nat → Prop) (rs : List RF) (cap fuse : Nat) (w : World) (h : Raw w g X bm rs cap fuse true) :
    Calls Tryz.prog 56 #[.pointer (some ⟨g, 0, none⟩)] w fun e w' => e = .returned (.int .i64 0) ∧ Below w.heap.size w w' := by
  have h3 : w.cell? ⟨g, 3, none⟩ = some (.bool true) := h.box.cell 3
  go_enter Tryz.func56, Tryz.ntmps56
  go_wp2
  go_ret
  exact ⟨rfl, Below.refl _ _⟩

def FreeRel (w : World) (bm : Nat) (es : List (Lit × DataW Value)) (rs : List RF) (cap used : Nat) (f : Value) (wr : World) : Prop :=
  ∃ (left : Lit → Bool) (cnt k : Nat), f = .int .i64 (k : Int) ∧ Hid (k + used = cap + leftS left rs) ∧ k ≤ cap ∧ wr.ranges Tryz.prog 9 rawElem bm w.heap.size rs.length (.map es) left cnt ∧ Below w.heap.size w wr

set_option maxHeartbeats 1000000 in
theorem free_up (g bm : Nat) (X : Nat → Prop) (rs : List RF) (cap fuse : Nat) (w : World) (h : Raw w g X bm rs cap fuse false) :
    Calls Tryz.prog 56 #[.pointer (some ⟨g, 0, none⟩)] w fun e w' => e = .returned (.int .i64 ((cap - usedF (rs.map RF.fl) : Nat) : Int)) ∧ Below w.heap.size w w' := by
  have h0 : w.cell? ⟨g, 0, none⟩ = some (.map (some bm)) := h.box.cell 0
  have h1 : w.cell? ⟨g, 1, none⟩ = some (.int .i64 (cap : Int)) := h.box.cell 1
  have h3 : w.cell? ⟨g, 3, none⟩ = some (.bool false) := h.box.cell 3
  have hgl := h.box.lt
  obtain ⟨es, hom, hp⟩ := h.map
  have hcap := h.ok.cap
  have hus := h.ok.used
  simp only at hcap hus
  obtain ⟨used, hU⟩ : ∃ u, u = usedF (rs.map RF.fl) := ⟨_, rfl⟩
  rw [← hU] at hus ⊢
  have HU := Lib.hid hU
  have HR := Lib.hid h.rise
  have HF := Lib.hid (fun q (hq : q ∈ rs) => h.form hq)
  have HP := Lib.hid hp
  have hall : leftS (Maps.has (.map es)) rs = used := by
    rw [hU]
    refine leftS_all fun r hr => ?_
    have e := lookBy_mem h.rise hr
    rw [has_ent hp]
    unfold RF.nm at e
    show (lookBy (fun r : RF => r.fl.name) _ rs).isSome = true
    rw [e]
    rfl
  have HA := Lib.hid hall
  have hlen := h.len
  clear hU hall hp h
  go_enter Tryz.func56, Tryz.ntmps56
  go_wp2_with (at_range; refine wpList_range_own _ rfl _ _ rfl 9 72 lawK Tryz.underlying57 _ bm rs.length _ rfl hom ?_; intro w0 hrg0 hg0 hs0)
  go_frame
  go_loopw [3] (fun f wr => FreeRel w bm es rs cap used f wr) (fun _ wr => wr.rangeLeft bm w.heap.size)
  case atStart =>
    refine ⟨_, _, cap, rfl, Lib.hid (by rw [HA.out]), Nat.le_refl _, hrg0, ?_⟩
    exact ⟨hg0.os, hg0.tape, hg0.output, hg0.size, fun k hk => hg0.block k hk (by simp)⟩
  case round =>
    obtain ⟨left, cnt, k, rfl, HK, hk, hrg, hbw⟩ := hrel
    have Hst : Hid (∀ q ∈ rs, left (.string q.fl.name) = true → q.fl.bs.length ≤ k ∧ (k - q.fl.bs.length) + used = cap + leftS (fun z => left z && !z.sameKey (.string q.fl.name)) rs) := Lib.hid (fun q hq hl => by
      have h1 := HK.out
      rw [leftS_step HR.out hq hl] at h1
      omega)
    go_wp2_with (at_next; refine wpList_next_files _ rfl _ rfl HP.out HR.out (fun q hq => by obtain ⟨A, c, h, _⟩ := HF.out q hq; exact ⟨A, c, h⟩) bm w.heap.size rs.length left cnt rfl hrg (fun hl => ?_) (fun s q A m c sf sy w1 cnt1 hq hlq hm hrg1 hlt hg1 hen => ?_); rotate_left; have Hm := Lib.hid hm; have hst := Hst.out q hq hlq; have hmk : m ≤ k := (by omega); have Hs := Lib.hid hst.2; have hsz := hg1.size; have hbw1 : Below w.heap.size w w1 := hbw.grown hg1 hbw.size (fun j hj => by cases hj; exact Nat.le_refl _); clear hst hm hlq; rotate_left)
    · have h1 := HK.out
      rw [leftS_none hl] at h1
      go_ret
      exact ⟨ret_int (by omega), hbw⟩
    · exact ⟨⟨_, cnt1, k - m, by simp; omega, Lib.hid (by rw [Hm.out]; exact Hs.out), by omega, hrg1.alloc _, hbw1.alloc hbw1.size _⟩, by rw [(hrg1.alloc _).left_eq, hrg.left_eq]; exact hlt⟩
end Go.Proofs.YtohnhboeipckjaaGreatDoor
