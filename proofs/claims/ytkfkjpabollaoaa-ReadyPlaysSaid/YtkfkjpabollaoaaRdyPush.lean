/-
  What the heap's Push and container/heap's Push do to a queue: an entry more.
  Conditions: the queue is one; the entry lies in a block of its own that the queue does not have.
-/
import Derived.Test.YtkfkjpabollaoaaRdyUp
namespace Go.Proofs.Ytkfkjpabollaoaa
open Go.RowKit Go.Sort

theorem info_parts {o : Option TypeInfo} {z : Option Value} {a b : Nat} (h : o.map (fun i => (i.zero, i.size, i.bytes)) = some (z, a, b)) : ∃ i, o = some i ∧ i.zero = z ∧ i.size = a ∧ i.bytes = b := by
  cases o with
  | none => cases h
  | some i =>
    simp only [Option.map_some, Option.some.injEq, Prod.mk.injEq] at h
    exact ⟨i, rfl, h.1, h.2.1, h.2.2⟩
theorem cell_one_to {w : World} {g : Nat} (hg : g = w.heap.size) (p : Value) (t : TypeId) : ∀ j u, [p][j]? = some u → (w.alloc (.cells #[p] t)).cell? ((⟨g, 0, none⟩ : Addr).add j) = some u := by
  intro j u hj
  subst hg
  match j, hj with
  | 0, hj =>
    simp only [List.getElem?_cons_zero, Option.some.injEq] at hj
    subst hj
    rw [Addr.add_lit]
    simp
theorem infoE : (Try.prog.info? 58).map (fun i => (i.zero, i.size, i.bytes)) = some (some (.pointer none), 1, 8) := by kernel_rfl
theorem assertE (p : Value) (w : World) : (Instr.typeAssert (.iface 58 p) 20 58 false).run Try.prog w = .ok p w := by kernel_rfl
section
variable {w : World} {g bm : Nat} {X : Nat → Prop} {v : Value} {d : List En} {ms : List (Nat × Nat)} {cap age last : Nat}
theorem nth_app {d : List En} {e : En} {k : Nat} (hk : k < d.length) : nth (d ++ [e]) k = nth d k := by
  rw [nth_get (by simp; omega), nth_get hk]
  simp [hk]
theorem nth_last (d : List En) (e : En) : nth (d ++ [e]) d.length = e := by simp [nth]
theorem Raw.pushed (h : Raw w g X bm v d ms cap age last) {e : En} {p : Value} (he : Box w e.b 60 #[.int .i64 e.id, .int .i64 (e.h : Int), .int .i64 e.wt, p]) (hne : ∀ x ∈ d, x.b ≠ e.b) (hx : ¬ X e.b) {w3 : World} {o : Obj} {v' : Value}
    (hg3 : ((w.setCell ⟨e.b, 3, none⟩ (.int .i64 (d.length : Int))).alloc o).grownBy w3 v.ownBlock) (ho3 : w3.ownsRow 0 58 1 v' (d.length + 1) (d.map En.val ++ [ptr e.b])) (hat : v'.ownBlock = v.ownBlock ∨ v'.ownBlock = some (w.heap.size + 1)) :
    Raw (w3.setCell ⟨g, 3, none⟩ v') g X bm v' (d ++ [e]) ms cap age last ∧ Keep X w (w3.setCell ⟨g, 3, none⟩ v') := by
  have heg : e.b ≠ g := cells_ne he h.box (by decide)
  have hev : v.ownBlock ≠ some e.b := fun e1 => by
    obtain ⟨cur, hc⟩ := own_block h.row e1
    exact cells_ne he hc (by decide) rfl
  have hem : e.b ≠ bm := fun e1 => by
    obtain ⟨es, c, h1⟩ := h.mblk
    unfold Box at he
    rw [e1, h1] at he
    cases he
  have hsz : (w.setCell ⟨e.b, 3, none⟩ (.int .i64 (d.length : Int))).heap.size = w.heap.size := by simp [World.setCell]
  have hgl := h.box.lt
  have hml := h.mlt
  have hvg : v'.ownBlock ≠ some g := fun e1 => by
    rcases hat with h1 | h1
    · exact h.rg (h1 ▸ e1)
    · rw [h1] at e1; injection e1 with e1; omega
  have hgr : w.grownBy ((w.setCell ⟨e.b, 3, none⟩ (.int .i64 (d.length : Int))).alloc o) (some e.b) := by
    have h1 := setCell_only w e.b 3 (.int .i64 (d.length : Int))
    exact ⟨h1.os, h1.tape, h1.output, by have := h1.size; simp, fun k hk hk' => (Below.heap_alloc _ o k (by rw [hsz]; exact hk)).trans (h1.block k hk hk')⟩
  refine ⟨⟨?_, ?_, ?_, ?_, ?_, h.xg, h.xm, ?_, ?_, ?_⟩, ?_⟩
  · exact (((h.box.far (p := ⟨e.b, 3, none⟩) heg.symm _).alloc o).grown hg3 (fun e1 => h.rg e1.symm)).put 3 v'
  · have := ho3.kept (setCell_only w3 g 3 v') (.inr hvg)
    simpa [En.val] using this
  · intro k hk
    by_cases hk' : k < d.length
    · rw [nth_app hk']
      have hk1 := nth_mem hk'
      exact ((((h.ens k hk').far (p := ⟨e.b, 3, none⟩) (hne _ hk1) _).alloc o).grown hg3 (fun e1 => h.er hk1 e1.symm)).far (p := ⟨g, 3, none⟩) (h.eg hk1) _
    · obtain rfl : k = d.length := by simp at hk; omega
      rw [nth_last]
      exact (((he.put 3 (.int .i64 (d.length : Int))).alloc o).grown hg3 (fun e1 => hev e1.symm)).far (p := ⟨g, 3, none⟩) heg _
  · rw [List.map_append, List.nodup_append]
    refine ⟨h.nd, by simp, ?_⟩
    intro a ha b hb
    simp only [List.map_cons, List.map_nil, List.mem_singleton] at hb
    obtain ⟨x, hx1, rfl⟩ := List.mem_map.1 ha
    rw [hb]
    exact hne x hx1
  · obtain ⟨es, h1, h2⟩ := h.map
    exact ⟨es, ((h1.kept hgr (by simpa using fun e1 => hem (Eq.symm e1))).kept hg3 (fun e1 => h.rm e1.symm)).kept (setCell_only w3 g 3 v') (by simpa using h.gm.symm), h2⟩
  · intro i hi hxi
    rcases hat with h1 | h1
    · exact h.xr i (h1 ▸ hi) hxi
    · rw [h1] at hi; injection hi with hi; have := h.xlt i hxi; omega
  · intro x hx1
    rcases List.mem_append.1 hx1 with h1 | h1
    · exact h.xe x h1
    · rw [List.mem_singleton.1 h1]; exact hx
  · intro i hxi
    have h1 := h.xlt i hxi
    have h2 := hgr.size
    have h3 := hg3.size
    simp [World.setCell] at h2 h3 ⊢
    omega
  · exact ((Keep.of_grown hgr (fun i e1 => by injection e1 with e1; exact e1 ▸ hx)).trans (Keep.of_grown hg3 h.xr)).setCell h.xg 3 v'

set_option maxHeartbeats 2000000 in
set_option maxRecDepth 100000 in
theorem hpush_any (h : Raw w g X bm v d ms cap age last) {e : En} {p : Value} (he : Box w e.b 60 #[.int .i64 e.id, .int .i64 (e.h : Int), .int .i64 e.wt, p]) (hne : ∀ x ∈ d, x.b ≠ e.b) (hx : ¬ X e.b) (hn : d.length ≤ 1099511627776) :
    Calls Try.prog 69 #[.pointer (some ⟨g, 3, none⟩), .iface 58 (ptr e.b)] w fun E w' => E = .returned (.tuple #[]) ∧ ∃ v', Turned w g X bm v' (d ++ [e]) ms cap age last w' := by
  obtain ⟨A, c, rfl, hc⟩ := h.form
  obtain ⟨i0, hi0, hz0, hz1, hz2⟩ := info_parts infoE
  have m3 := h.v3
  have mg := h.box.frozen 3
  have me := he.cell 3
  simp only [List.getElem?_toArray, List.getElem?_cons_succ, List.getElem?_cons_zero] at me
  have mf := he.frozen 3
  have heg : e.b ≠ g := cells_ne he h.box (by decide)
  have hgl := h.box.lt
  have hel := he.lt
  have hgr : w.grownBy (w.setCell ⟨e.b, 3, none⟩ (.int .i64 (d.length : Int))) (some e.b) := setCell_only w e.b 3 _
  have hev : (Value.slice A d.length c).ownBlock ≠ some e.b := fun e1 => by
    obtain ⟨cur, hc⟩ := own_block h.row e1
    exact cells_ne he hc (by decide) rfl
  have hown1 := h.row.kept hgr (.inr hev)
  have hrg := h.rg
  have kg : ∀ o w1, ((w.setCell ⟨e.b, 3, none⟩ (.int .i64 (d.length : Int))).alloc o).grownBy w1 (Value.slice A d.length c).ownBlock → w1.cell? ⟨g, 3, none⟩ = some (.slice A d.length c) ∧ w1.frozen? ⟨g, 3, none⟩ = false := fun o w1 hg1 => by
    have hbk := hg1.block g (by simp [World.setCell]; omega) (fun e1 => hrg e1.symm)
    have hbx := (h.box.far (p := ⟨e.b, 3, none⟩) heg.symm (.int .i64 (d.length : Int))).alloc o
    have hb3 : Box w1 g _ _ := hbk.trans hbx
    exact ⟨hb3.cell 3, hb3.frozen 3⟩
  have KG := Lib.hid kg
  have HR := Lib.hid h
  have HE := Lib.hid he
  have HN := Lib.hid hne
  have HO := Lib.hid hown1
  clear h he hne hown1 hgr hev kg hrg
  have ta := assertE (.pointer (some ⟨e.b, 0, none⟩)) w
  unfold ptr
  go_enter Try.func69, Try.ntmps69
  go_wp2_with (at_builtin; refine wpList_append_own_at _ rfl (.tmp 17) (.tmp 19) 55 rfl 0 58 i0 (.pointer none) 1 8 Try.underlying55 hi0 hz0 hz1 hz2 rfl (by decide) (.slice A d.length c) d.length (d.map En.val) rfl (HO.out.alloc _) ⟨w.heap.size, 0, none⟩ 1 1 [.pointer (some ⟨e.b, 0, none⟩)] rfl rfl (cell_one_to (by simp [World.setCell]) _ _) (by simp [Value.oneCell']) (by unfold maxLen; omega) (by omega) (Nat.zero_le _) ?_; intro v1 w1 hown1 hg1 _ hat1; obtain ⟨A1, c1, rfl, hc1⟩ := own_form hown1; obtain ⟨k1, k2⟩ := KG.out _ _ hg1; have HP := Lib.hid (HR.out.pushed HE.out HN.out hx hg1 hown1 (by simpa [World.setCell] using hat1)); clear hown1 hg1 hat1)
  go_end0
  exact ⟨rfl, _, HP.out⟩
set_option maxHeartbeats 2000000 in
set_option maxRecDepth 100000 in
theorem heappush_any (h : Raw w g X bm v d ms cap age last) (ho : Heap d d.length) {e : En} {p : Value} (he : Box w e.b 60 #[.int .i64 e.id, .int .i64 (e.h : Int), .int .i64 e.wt, p]) (hne : ∀ x ∈ d, x.b ≠ e.b) (hx : ¬ X e.b) (hn : d.length ≤ 1000000000000) :
    Calls Try.prog 20 #[hpv g, .iface 58 (ptr e.b)] w fun E w' => E = .returned (.tuple #[]) ∧ ∃ v' d', d'.Perm (d ++ [e]) ∧ Heap d' d'.length ∧ Turned w g X bm v' d' ms cap age last w' := by
  have eP : ∀ args w, (callFunc 69 args).run Try.prog w = .ok (.enter 69 args) w := enters_of Try.func69 (by kernel_rfl) rfl
  have eL : ∀ args w, (callFunc 65 args).run Try.prog w = .ok (.enter 65 args) w := enters_of Try.func65 (by kernel_rfl) rfl
  have HP := Lib.hid (hpush_any h he hne hx (by omega))
  have mp := m_push g w
  have hl : (d ++ [e]).length = d.length + 1 := by simp
  have hu : UpAt (d ++ [e]) (d.length + 1) d.length := by
    have := UpAt.push ho e
    rw [hl] at this
    exact this
  have HU := Lib.hid hu
  have HL := Lib.hid hl
  have up : ∀ w1 r c, Raw w1 g X bm (.slice (some ⟨r, 0, none⟩) (d.length + 1) c) (d ++ [e]) ms cap age last → Calls Try.prog 25 #[hpv g, .int .i64 (d.length : Int)] w1 fun e' w' => e' = .returned (.tuple #[]) ∧ Mended w1 g X bm (.slice (some ⟨r, 0, none⟩) (d.length + 1) c) (d ++ [e]) (d.length + 1) ms cap age last w' := fun w1 r c hR => by
    have h1 := up_any (d := d ++ [e]) (w := w1) (r := r) (c := c) (j := d.length) (n := d.length + 1) (by rw [hl]; exact hR) (by omega) (by omega) (by omega) hu
    rw [hl] at h1
    exact h1
  have UP := Lib.hid up
  clear h ho he hne up hu hl
  unfold hpv ptr
  unfold hpv at UP
  unfold ptr at HP
  go_enter Try.func20, Try.ntmps20
  go_wp2_with (first
    | (go_at_call 69; refine HP.out.mono ?_; rintro E w1 ⟨rfl, v1, hT1⟩; obtain ⟨r, c, hv1, hc1, _⟩ := hT1.1.live (by rw [HL.out]; omega); rw [HL.out] at hv1 hc1; subst hv1; have ml := m_len g _ _ _ w1 hT1.1.v3; have HT1 := Lib.hid hT1; clear hT1)
    | (go_at_call 65; refine (hlen_any _ _ _ _).mono ?_; rintro E w2 ⟨rfl, rfl⟩)
    | (go_at_call 25; refine (UP.out _ _ _ HT1.out.1).mono ?_; rintro E w2 ⟨rfl, hM⟩))
  go_end0
  obtain ⟨d', hp, hh, _, hR, hK⟩ := hM
  refine ⟨rfl, _, d', hp, ?_, hR, HT1.out.2.trans hK⟩
  rw [hp.length_eq, HL.out]
  exact hh
end
end Go.Proofs.Ytkfkjpabollaoaa
