/-
  Arguments, opened: a []int to its numbers, a []Act to its acts; what Go answers at whatever tick; what same answers of two equal rows of timers; two wheels side by side.
  Conditions: as each theorem names them.
-/
import Derived.Test.YtobodianbjfgfaaWhlAwake
import Derived.Test.YtobodianbjfgfaaRows
import Derived.ProofKit
import Derived.OpenShut
import Derived.SizedLaws
import Derived.Carry
import Derived.Deep.Slices
import Derived.Deep.Fields
import Derived.ChangeSame
namespace Go.Proofs.Ytobodianbjfgfaa.Wh
open Go.ChangeShapes Go.WideShapes Go.ChangeAt Go.RowKit

theorem own : ownKnob Try.prog.godebug = none := by kernel_rfl
theorem laidOut : laidOutB Try.prog = true := by kernel_rfl
theorem fits {k : IntKind} {a lo hi : Int} (h : (Lit.int k a).wf = true) (hl : k.min = lo) (hh : k.max = hi) : lo ≤ a ∧ a ≤ hi := by
  simp only [Lit.wf, Bool.and_eq_true, decide_eq_true_eq] at h
  omega
/-- a function of places out of what each place has -/
theorem pick_fun {α : Type} (d : α) {n : Nat} {Q : Nat → α → Prop} (h : ∀ i, i < n → ∃ a, Q i a) : ∃ f : Nat → α, ∀ i, i < n → Q i (f i) :=
  ⟨fun i => if hi : i < n then Classical.choose (h i hi) else d, fun i hi => by simp only [dif_pos hi]; exact Classical.choose_spec (h i hi)⟩
/-- the ints at a place of a slice, k cells each -/
def IntsAt (w : World) (B : Nat) (A : Option Addr) (k i : Nat) (f : Nat → Int) : Prop :=
  ∃ b o, A = some ⟨b, o, none⟩ ∧ b < B ∧ ∀ j, j < k → (Lit.int .i64 (f j)).wf = true ∧ w.cell? ⟨b, o + i * k + j, none⟩ = some (.int .i64 (f j))
theorem IntsAt.below {w w' : World} {B : Nat} {A : Option Addr} {k i : Nat} {f : Nat → Int} (h : IntsAt w B A k i f) (hb : Below B w w') : IntsAt w' B A k i f := by
  obtain ⟨b, o, e, hlt, hc⟩ := h
  exact ⟨b, o, e, hlt, fun j hj => ⟨(hc j hj).1, (hb.cell (p := ⟨b, o + i * k + j, none⟩) hlt).trans (hc j hj).2⟩⟩
theorem IntsAt.get {w : World} {B b o : Nat} {k i : Nat} {f : Nat → Int} (h : IntsAt w B (some ⟨b, o, none⟩) k i f) (j : Nat) (hj : j < k) : w.cell? ⟨b, o + i * k + j, none⟩ = some (.int .i64 (f j)) := by
  obtain ⟨b', o', e, _, hc⟩ := h
  injection e with e
  injection e with e1 e2
  subst e1 e2
  exact (hc j hj).2
theorem IntsAt.fit {w : World} {B : Nat} {A : Option Addr} {k i : Nat} {f : Nat → Int} (h : IntsAt w B A k i f) (j : Nat) (hj : j < k) : -9223372036854775808 ≤ f j ∧ f j ≤ 9223372036854775807 := by
  obtain ⟨b', o', e, _, hc⟩ := h
  exact fits (hc j hj).1 rfl rfl
/-- a slice whose elements read as k ints each -/
theorem arg_ints {H : Type} {enc : TypeId × Value → H} {W : World} {a0 : Option Addr} {len cap : Nat} {d0 : DataW H} {p : List MemPlace} {U e : TypeId} (k : Nat) (k0 : 0 < k) (hT : Try.prog.underlying U = some (.slice e)) (he : Try.prog.cellsOf e = k)
    (hel : ∀ fuel cs x, DataW.trod enc Try.prog W 0 (fun _ => true) true fuel e cs = some x → cs.length = k → ∃ f : Nat → Int, ∀ j, j < k → (Lit.int .i64 (f j)).wf = true ∧ cs[j]? = some (.int .i64 (f j)))
    (h0 : DataW.Trod enc Try.prog W 0 (fun _ => true) true U (.slice a0 len cap) d0 p) :
    ∃ f : Nat → Nat → Int, len ≤ cap ∧ len ≤ 9223372036854775807 ∧ ∀ i, i < len → IntsAt W W.heap.size a0 k i (f i) := by
  obtain ⟨fuel, hf⟩ := h0
  rcases Deep.open_slice hT hf with ⟨hcs, _⟩ | ⟨a, len', cap', m, n, D, Pl, hcs, _, hl, hm, hmm, _, hi⟩
  · simp [Value.cells] at hcs
    obtain ⟨rfl, rfl, rfl⟩ := hcs
    exact ⟨fun _ _ => 0, Nat.le_refl _, by omega, fun i hi => absurd hi (by omega)⟩
  · simp [Value.cells] at hcs
    obtain ⟨rfl, rfl, rfl⟩ := hcs
    simp only [if_true] at hmm
    subst hmm
    suffices H : ∀ i, i < len → ∃ x, IntsAt W W.heap.size (some a) k i x by
      obtain ⟨f, hf⟩ := pick_fun (fun _ => 0) H
      exact ⟨f, hl, by unfold maxLen at hm; omega, hf⟩
    intro i hi'
    have hsp : a.spot = none ∧ a.block < W.heap.size := by
      obtain ⟨cs0, hc0, _⟩ := hi 0 (by omega)
      rw [he] at hc0
      obtain ⟨_, hlen0, hat0⟩ := World.cells?_some hc0
      have g0 := hat0 0 (by omega)
      rw [List.getElem?_eq_getElem (by omega)] at g0
      exact ⟨World.cell?_spot (by simpa [Addr.add] using g0), by simpa [Addr.add] using World.block_lt_of_cell? _ _ g0⟩
    obtain ⟨b, o, sp⟩ := a
    simp only at hsp
    obtain ⟨rfl, hblt⟩ := hsp
    obtain ⟨cs', hc, ht⟩ := hi i (by omega)
    rw [he] at hc
    obtain ⟨_, hlen, hat⟩ := World.cells?_some hc
    obtain ⟨f, hff⟩ := hel _ _ _ ht hlen
    refine ⟨f, b, o, rfl, hblt, fun j hj => ⟨(hff j hj).1, ?_⟩⟩
    have hx := hat j hj
    rw [Addr.add_lit, Addr.add_lit] at hx
    rw [hx]
    exact (hff j hj).2
theorem cellsI : Try.prog.cellsOf 3 = 1 := by kernel_rfl
theorem arg_nums {H : Type} {enc : TypeId × Value → H} {W : World} {a0 : Option Addr} {len cap : Nat} {d0 : DataW H} {p : List MemPlace}
    (h0 : DataW.Trod enc Try.prog W 0 (fun _ => true) true 48 (.slice a0 len cap) d0 p) :
    ∃ f : Nat → Nat → Int, len ≤ cap ∧ len ≤ 9223372036854775807 ∧ ∀ i, i < len → IntsAt W W.heap.size a0 1 i (f i) := by
  refine arg_ints 1 (by omega) Try.underlying48 cellsI (fun fuel cs x ht hl => ?_) h0
  match cs, hl with
  | [c], _ =>
    obtain ⟨x0, q0, _, w0⟩ := DataW.trod_int Try.underlying3 ht
    simp only [List.cons.injEq, and_true] at q0
    subst q0
    exact ⟨fun _ => x0, fun j hj => by obtain rfl : j = 0 := by omega
                                       exact ⟨w0, rfl⟩⟩

section
open Go.Maps
variable {w w' : World} {g : Nat} {X : Nat → Prop} {s : Ws}
/-- what comes of a Go to a tick, at or above the time -/
def Res (s : Ws) (to : Nat) (s' : Ws) (l : List T) : Prop := (to = s.now ∧ s' = s ∧ l = []) ∨ (s.now < to ∧ s' = s.go to ∧ Gone s.xs to l)
theorem Res.uniq {to : Nat} {s1 s2 : Ws} {l1 l2 : List T} (h : Res s to s1 l1) (k : Res s to s2 l2) : s1 = s2 ∧ l1 = l2 := by
  rcases h with ⟨h1, h2, h3⟩ | ⟨h1, h2, h3⟩
  · rcases k with ⟨k1, k2, k3⟩ | ⟨k1, k2, k3⟩
    · exact ⟨h2.trans k2.symm, h3.trans k3.symm⟩
    · omega
  · rcases k with ⟨k1, k2, k3⟩ | ⟨k1, k2, k3⟩
    · omega
    · exact ⟨h2.trans k2.symm, gone_uniq h3 k3⟩
theorem Res.now {to : Nat} {s' : Ws} {l : List T} (h : Res s to s' l) : s'.now = to ∧ s'.last = s.last ∧ s'.cap = s.cap := by
  rcases h with ⟨rfl, rfl, _⟩ | ⟨_, rfl, _⟩ <;> exact ⟨rfl, rfl, rfl⟩
theorem Res.trans {a b : Nat} {s1 s2 : Ws} {l1 l2 : List T} (h : Res s a s1 l1) (k : Res s1 b s2 l2) : Res s b s2 (l1 ++ l2) := by
  rcases h with ⟨rfl, rfl, rfl⟩ | ⟨h1, rfl, h3⟩
  · rw [List.nil_append]
    exact k
  · rcases k with ⟨k1, rfl, rfl⟩ | ⟨k1, rfl, k3⟩
    · have : b = a := k1
      subst this
      rw [List.append_nil]
      exact .inr ⟨h1, rfl, h3⟩
    · have k1 : a < b := k1
      refine .inr ⟨by omega, ?_, gone_app h3 k3 (Nat.le_of_lt k1)⟩
      unfold Ws.go
      simp only [stays_stays (Nat.le_of_lt k1)]
theorem Res.len {to : Nat} {s' : Ws} {l : List T} (h : Res s to s' l) (ho : s.Ok) : l.length ≤ 65536 := by
  rcases h with ⟨_, _, rfl⟩ | ⟨_, _, h3⟩
  · simp
  · rw [h3.1.length_eq]
    have := List.length_filter_le (fun x : T => decide (x.due ≤ to)) s.xs
    have := ho.len
    have := ho.cap
    omega
/-- what Go answers at a tick at or above the time -/
def GoEnd (w : World) (g : Nat) (X : Nat → Prop) (s : Ws) (to : Nat) (e : Ending) (w' : World) : Prop :=
  ∃ gv l s', e = .returned gv ∧ Res s to s' l ∧ w'.ownsRow w.heap.size 34 3 gv l.length (cellsT l) ∧ Whl w' g (fun b => X b ∨ gv.ownBlock = some b) s' ∧ Keep X w w'
theorem gor_any (h : Whl w g X s) (hlast : s.last < 4611686018427387904) {to : Nat} (h1 : s.now ≤ to) (ht : to ≤ 1099511627776) :
    Calls Try.prog 14 #[ptr g, .int .i64 (to : Int)] w (GoEnd w g X s to) := by
  rcases Nat.eq_or_lt_of_le h1 with rfl | h1
  · refine (go_no h (.inl (Int.le_refl _))).mono ?_
    rintro e w' ⟨rfl, rfl⟩
    exact ⟨_, [], s, rfl, .inl ⟨rfl, rfl, rfl⟩, World.ownsRow_nil _ _ _ _, h.less fun b hb => by
      rcases hb with e | e
      · exact e
      · simp [Value.ownBlock] at e, Keep.refl _ _⟩
  · refine (go_any h hlast h1 ht).mono ?_
    rintro e w' ⟨gv, l, rfl, hg, hr, hW, hK⟩
    exact ⟨gv, l, _, rfl, .inr ⟨h1, rfl, hg⟩, hr, hW, hK⟩
/-- a row of timers read at a place -/
theorem row_at {B : Nat} {gv : Value} {l : List T} (h : w.ownsRow B 34 3 gv l.length (cellsT l)) {i : Nat} (hi : i < l.length) : ∃ r c, gv = .slice (some ⟨r, 0, none⟩) l.length c ∧ r < w.heap.size ∧
    w.cell? ⟨r, i * 3, none⟩ = some (.int .i64 (l[i].h : Int)) ∧ w.cell? ⟨r, i * 3 + 1, none⟩ = some (.int .i64 l[i].id) ∧ w.cell? ⟨r, i * 3 + 2, none⟩ = some (.int .i64 (l[i].due : Int)) := by
  rcases h.2 with ⟨_, h0⟩ | ⟨r, c, cur, rfl, _⟩
  · omega
  · have hc := h.cells (g := r) rfl
    have hq : ∀ q, q < 3 → w.cell? ⟨r, i * 3 + q, none⟩ = some ((T.cells l[i])[q]!) := fun q hq => by
      have h1 := cellsT_get l (i * 3 + q) (by omega)
      rw [show (i * 3 + q) / 3 = i by omega, show (i * 3 + q) % 3 = q by omega, getElem!_pos l.toArray i (by simpa using hi)] at h1
      have h2 := hc _ _ h1
      rw [Addr.add_lit, Nat.zero_add] at h2
      simpa using h2
    exact ⟨r, c, rfl, own_lt h rfl, hq 0 (by omega), hq 1 (by omega), hq 2 (by omega)⟩
set_option maxHeartbeats 1000000 in
set_option maxRecDepth 100000 in
theorem same_any {B1 B2 : Nat} {v1 v2 : Value} {l : List T} (h1 : w.ownsRow B1 34 3 v1 l.length (cellsT l)) (h2 : w.ownsRow B2 34 3 v2 l.length (cellsT l)) (hl : l.length ≤ 1099511627776) :
    Calls Try.prog 16 #[v1, v2] w fun e w' => e = .returned (.bool true) ∧ ∃ n, w' = w.drewN n := by
  have hat := fun i (hi : i < l.length) => row_at h1 hi
  have hbt := fun i (hi : i < l.length) => row_at h2 hi
  obtain ⟨A1, c1, rfl⟩ : ∃ A c, v1 = .slice A l.length c := by
    rcases h1.2 with ⟨rfl, h0⟩ | ⟨r, c, cur, rfl, _⟩
    · exact ⟨none, 0, by rw [h0]⟩
    · exact ⟨_, _, rfl⟩
  obtain ⟨A2, c2, rfl⟩ : ∃ A c, v2 = .slice A l.length c := by
    rcases h2.2 with ⟨rfl, h0⟩ | ⟨r, c, cur, rfl, _⟩
    · exact ⟨none, 0, by rw [h0]⟩
    · exact ⟨_, _, rfl⟩
  have HA := Lib.hid hat
  have HB := Lib.hid hbt
  clear h1 h2 hat hbt
  go_enter Try.func16, Try.ntmps16
  go_wp2
  go_loopw [5] (fun vi wr => ∃ k : Nat, vi = .int .i64 (k : Int) ∧ k ≤ l.length ∧ Hid (∃ n, wr = w.drewN n)) (fun vi _ => l.length - (intOf vi).toNat)
  case atStart => exact ⟨0, rfl, Nat.zero_le _, ⟨0, rfl⟩⟩
  case round =>
    obtain ⟨k, rfl, hk, HW⟩ := hrel
    by_cases hlt : k < l.length
    · obtain ⟨r1, c1', e1, _, a0, a1, a2⟩ := HA.out k hlt
      obtain ⟨r2, c2', e2, _, b0, b1, b2⟩ := HB.out k hlt
      injection e1 with e1 _ e3
      injection e2 with e2 _ e4
      obtain ⟨q, hq⟩ := HW.out
      have C0 : wr.cell? ⟨r1, k * 3, none⟩ = some (.int .i64 (l[k].h : Int)) := by rw [hq]; exact a0
      have C1 : wr.cell? ⟨r1, k * 3 + 1, none⟩ = some (.int .i64 l[k].id) := by rw [hq]; exact a1
      have C2 : wr.cell? ⟨r1, k * 3 + 2, none⟩ = some (.int .i64 (l[k].due : Int)) := by rw [hq]; exact a2
      have D0 : wr.cell? ⟨r2, k * 3, none⟩ = some (.int .i64 (l[k].h : Int)) := by rw [hq]; exact b0
      have D1 : wr.cell? ⟨r2, k * 3 + 1, none⟩ = some (.int .i64 l[k].id) := by rw [hq]; exact b1
      have D2 : wr.cell? ⟨r2, k * 3 + 2, none⟩ = some (.int .i64 (l[k].due : Int)) := by rw [hq]; exact b2
      have HQ := Lib.hid hq
      subst e1 e2 e3 e4
      generalize l[k].h = xh at *
      generalize l[k].id = xi at *
      generalize l[k].due = xd at *
      clear a0 a1 a2 b0 b1 b2 hq
      go_wp2
      go_quiet (fail)
      go_wp2
      go_roundw
      case rel => exact ⟨k + 1, by go_num, by omega, ⟨_, by rw [HQ.out, World.drewN_drewN]⟩⟩
      case measure => simp [intOf]; omega
    · obtain rfl : k = l.length := by omega
      go_wp2
      go_ret
      exact ⟨rfl, HW.out⟩
/-- a wheel that another's call leaves -/
theorem Whl.across {Y : Nat → Prop} (h : Whl w g X s) (hk : Keep Y w w') (hD : ∀ i, i < w.heap.size → Y i ∨ X i) : Whl w' g (fun i => X i ∨ w.heap.size ≤ i ∧ i < w'.heap.size) s := by
  obtain ⟨bm, lev, rv, ct, ms, d, hH⟩ := h
  have hR := hH.raw.stay hk.size fun i hi => hk.block i (hH.raw.olt hi) ((hD i (hH.raw.olt hi)).resolve_right (hH.raw.xown hi))
  refine hH.on (hR.other fun i hi => ?_)
  rcases hi with hi | hi
  · exact ⟨hR.xlt i hi, fun ho => hH.raw.xown ho hi⟩
  · exact ⟨hi.2, fun ho => by have := hH.raw.olt ho; omega⟩
/-- .. and what grows elsewhere -/
theorem Whl.across_grown {row : Option Nat} (h : Whl w g X s) (hg : w.grownBy w' row) (hr : ∀ i, row = some i → X i) : Whl w' g (fun i => X i ∨ w.heap.size ≤ i ∧ i < w'.heap.size) s :=
  h.across (Y := fun i => some i ≠ row) ⟨hg.os, hg.tape, hg.output, hg.size, fun i hi hx => hg.block i hi hx⟩ fun i _ => by
    by_cases e : some i = row
    · exact .inr (hr i e.symm)
    · exact .inl e
end
end Go.Proofs.Ytobodianbjfgfaa.Wh
