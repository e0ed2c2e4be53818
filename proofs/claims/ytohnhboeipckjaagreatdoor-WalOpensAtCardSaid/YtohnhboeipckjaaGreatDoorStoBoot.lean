/-
  What the store's restore and Boot leave.
  Conditions: the store is one; names are at most 2^30 bytes.
-/
import Derived.Test.YtohnhboeipckjaaGreatDoorStoTurn
namespace Go.Proofs.YtohnhboeipckjaaGreatDoor
open Go.RowKit Go.Maps

set_option maxHeartbeats 2000000 in
set_option maxRecDepth 100000 in
theorem restore_del (g bm : Nat) (X : Nat → Prop) (rs : List RF) (cap fuse : Nat) (s : ByteArray) (r : RF) (told : Int) (w : World) (h : Raw w g X bm rs cap fuse false) (hs : s.size ≤ 1073741824) (hl : lookBy RF.nm s.data.toList rs = some r) (hlo : -9223372036854775808 ≤ told) (hhi : told ≤ 9223372036854775807)
    (h0 : leftF r.fl told = 0) (hst : r.fl.stays = false) :
    Calls Tryz.prog 46 #[.pointer (some ⟨g, 0, none⟩), .string s, .int .i64 told] w fun e w' => e = .returned (.tuple #[]) ∧ Raw w' g X bm (delBy RF.nm s.data.toList rs) cap fuse false ∧ Keep X w w' := by
  obtain ⟨hr, hrn⟩ := lookBy_some hl
  obtain ⟨A, c, hv, hnc⟩ := h.form hr
  have hbl := len_of h hr
  have hsn := h.ok.safe r.fl (List.mem_map.2 ⟨r, hr, rfl⟩)
  have hV : lookV rs s.data.toList = (.agg #[.slice A r.fl.bs.length c, .int .i64 (r.fl.safe : Int), .bool false], true) := by rw [lookV_some hl, hv, hst]; rfl
  have c0 : w.cell? ⟨g, 0, none⟩ = some (.map (some bm)) := h.box.cell 0
  have hgl := h.box.lt
  unfold leftF at h0
  obtain ⟨n, hn⟩ : ∃ n, n = r.fl.bs.length := ⟨_, rfl⟩
  obtain ⟨sf, hsf⟩ : ∃ n, n = r.fl.safe := ⟨_, rfl⟩
  rw [← hn, ← hsf] at hV
  rw [← hn, ← hsf] at h0 hsn
  rw [← hn] at hbl
  have HV := Lib.hid hV
  have HR := Lib.hid h
  obtain rfl : 0 = sf := by omega
  have h1 : told ≤ 0 ∨ n = 0 := by omega
  clear hV hl hv h hn hsf h0 hst hrn
  go_enter Tryz.func46, Tryz.ntmps46
  have hb1 := fun o => (Below.refl w.heap.size w).alloc (Nat.le_refl _) o
  go_wp2_with (first
    | (at_lookup; refine wpList_look _ rfl _ _ rfl HR.out rfl s rfl (by unfold maxLen; omega) HV.out ?_)
    | (at_delete; refine wpList_mdel _ rfl _ _ rfl (HR.out.below (hb1 _)) rfl s rfl (by unfold maxLen; omega) (St.Ok.del HR.out.ok _) ?_; intro w3 hR3 hK3))
  refine bodyPost_ret (results_none rfl _ _ _) rfl ⟨rfl, hR3, (Keep.of_below (hb1 _)).trans hK3⟩

set_option maxHeartbeats 4000000 in
set_option maxRecDepth 100000 in
theorem restore_keep (g bm : Nat) (X : Nat → Prop) (rs : List RF) (cap fuse : Nat) (s : ByteArray) (r : RF) (told : Int) (L : Nat) (w : World) (h : Raw w g X bm rs cap fuse false) (hs : s.size ≤ 1073741824) (hl : lookBy RF.nm s.data.toList rs = some r)
    (h0 : leftF r.fl told = L) (hst : L ≠ 0 ∨ r.fl.stays = true) (hok : St.Ok ⟨putBy Fl.name (sureF r.fl L) (rs.map RF.fl), cap, fuse, false⟩) :
    Calls Tryz.prog 46 #[.pointer (some ⟨g, 0, none⟩), .string s, .int .i64 told] w fun e w' => e = .returned (.tuple #[]) ∧ (∃ rs', Raw w' g X bm rs' cap fuse false ∧ rs'.map RF.fl = putBy Fl.name (sureF r.fl L) (rs.map RF.fl)) ∧ Keep X w w' := by
  obtain ⟨hr, hrn⟩ := lookBy_some hl
  obtain ⟨A, c, hv, hnc⟩ := h.form hr
  have hbl := len_of h hr
  have hsn := h.ok.safe r.fl (List.mem_map.2 ⟨r, hr, rfl⟩)
  have hV : lookV rs s.data.toList = (.agg #[.slice A r.fl.bs.length c, .int .i64 (r.fl.safe : Int), .bool r.fl.stays], true) := by rw [lookV_some hl, hv]; rfl
  have c0 : w.cell? ⟨g, 0, none⟩ = some (.map (some bm)) := h.box.cell 0
  have hgl := h.box.lt
  unfold leftF at h0
  have hown := (h.own r hr).1
  rw [hv] at hown
  have hby := (Byt.own hown).take L
  obtain ⟨l, hll⟩ : ∃ l, l = r.fl.bs.take L := ⟨_, rfl⟩
  rw [← hll] at hby
  have hLn : L ≤ r.fl.bs.length := by omega
  have hlk : l.length = L := by rw [hll, List.length_take]; omega
  have hcut : ∀ W, (Instr.slice 31 (.slice A r.fl.bs.length c) none (some (.int .i64 (L : Int))) none).run Tryz.prog W = .ok (.slice A l.length c) W := fun W => by
    have := run_cut_to (P := Tryz.prog) W 31 5 Tryz.underlying31 (fun w => (by kernel_rfl)) A r.fl.bs.length c (L : Int) (by omega) (by omega)
    rw [this]
    simp [hlk]
  have hsure : sureF r.fl L = { r.fl with bs := l, safe := l.length, stays := true } := by unfold sureF; rw [hll, List.length_take, Nat.min_eq_left hLn]
  rw [hsure] at hok ⊢
  obtain ⟨n, hn⟩ : ∃ n, n = r.fl.bs.length := ⟨_, rfl⟩
  obtain ⟨sf, hsf⟩ : ∃ n, n = r.fl.safe := ⟨_, rfl⟩
  obtain ⟨sy, hsy⟩ : ∃ n, n = r.fl.stays := ⟨_, rfl⟩
  rw [← hn, ← hsf, ← hsy] at hV
  rw [← hn, ← hsf] at h0
  rw [← hn, ← hsf] at hsn
  rw [← hn] at hbl hcut hLn
  rw [← hsy] at hst
  have HV := Lib.hid hV
  have HR := Lib.hid h
  have HN := Lib.hid hrn
  have HO := Lib.hid hok
  have hmath : (sf : Int) + min (max told 0) ((n : Int) - (sf : Int)) = (L : Int) := by omega
  have hl24 : l.length ≤ 16777216 := by omega
  have Hlk := Lib.hid hlk
  clear hV hl hv h hn hsf hrn hok hsure hll hown hsy hlk h0
  have hb1 := fun o => (Below.refl w.heap.size w).alloc (Nat.le_refl _) o
  have hcase : ((L : Int) == 0) = false ∨ (((L : Int) == 0) = true ∧ sy = true) := by
    by_cases hL0 : L = 0
    · exact .inr ⟨by simp [hL0], hst.resolve_left (fun h => h hL0)⟩
    · exact .inl (by simpa using hL0)
  clear hst
  rcases hcase with hz | ⟨hz, rfl⟩
  · go_enter Tryz.func46, Tryz.ntmps46
    go_wp2_with (at_lookup; refine wpList_look _ rfl _ _ rfl HR.out rfl s rfl (by unfold maxLen; omega) HV.out ?_)
    have hbA := hb1 (.cells #[.slice A n c, .int .i64 (sf : Int), .bool sy] 72)
    have hbx := Box.new w 72 #[.slice A n c, .int .i64 (sf : Int), .bool sy]
    have hW1 := HR.out.below hbA
    generalize (w.alloc (.cells #[.slice A n c, .int .i64 (sf : Int), .bool sy] 72)) = W1 at hbA hbx hW1 ⊢
    have d0 : W1.cell? ⟨g, 0, none⟩ = some (.map (some bm)) := (hbA.cell hgl).trans c0
    have d1 : W1.cell? ⟨w.heap.size, 0, none⟩ = some (.slice A n c) := hbx.cell 0
    have HD := Lib.hid hW1.drew
    have HC := Lib.hid (clone_any A l c W1.drew ((hby.below hbA).more hbA.size) (by omega))
    have hgl2 : g < W1.drew.heap.size := hW1.box.lt
    have hfl2 : w.heap.size < W1.drew.heap.size := hbx.lt
    have hgm := hW1.gm
    have hfm : w.heap.size ≠ bm := by have := HR.out.mlt; omega
    clear hW1 hbx c0 hmath
    go_region_held3 (fun w' => w'.cell? ⟨g, 0, none⟩ = some (.map (some bm)) ∧ w'.cell? ⟨w.heap.size, 0, none⟩ = some (.slice A n c)) (first | exact ⟨d0, d1⟩ | assumption)
      (first
        | (go_at_call 42; (with_reducible refine HC.out.mono ?_); rintro e w3 ⟨v3, rfl, ho3, hb3⟩; obtain ⟨A3, c3, rfl, hc3⟩ := own_form ho3; have hS3 : w3.cell? ⟨g, 0, none⟩ = some (.map (some bm)) ∧ w3.cell? ⟨w.heap.size, 0, none⟩ = some (.slice A n c) := ⟨(hb3.cell hgl2).trans d0, (hb3.cell hfl2).trans d1⟩)
        | (go_at_call 61; (with_reducible refine (sure_any A3 l.length c3 w3).mono ?_); rintro e w4 ⟨rfl, hb4⟩; have hb34 : Below W1.drew.heap.size W1.drew w4 := hb3.trans (hb4.mono hb3.size); have hS4 : w4.cell? ⟨g, 0, none⟩ = some (.map (some bm)) ∧ w4.cell? ⟨w.heap.size, 0, none⟩ = some (.slice A n c) := ⟨(hb34.cell hgl2).trans d0, (hb34.cell hfl2).trans d1⟩;
           obtain ⟨w5, hrun5, hR5, hK5, ht5⟩ := HD.out.mput (w1 := w4) (row := none) s (by unfold maxLen; omega) ⟨{ r.fl with bs := l, safe := l.length, stays := true }, .slice A3 l.length c3⟩ HN.out ⟨hb34.os, hb34.tape, hb34.output, hb34.size, fun i hi _ => hb34.block i hi⟩ (fun i e => by cases e) (own_base (own_below ho3 hb4) (Nat.zero_le _)) (fun i e => .inr (HD.out.fresh (ho3.lt i e).1)) HO.out (V := .agg #[.slice A3 l.length c3, .int .i64 (l.length : Int), .bool true]) rfl;
           have hS5 : w5.cell? ⟨g, 0, none⟩ = some (.map (some bm)) ∧ w5.cell? ⟨w.heap.size, 0, none⟩ = some (.slice A n c) := ⟨(turned_cell ht5 (Nat.lt_of_lt_of_le hgl2 hb34.size) hgm 0).trans hS4.1, (turned_cell ht5 (Nat.lt_of_lt_of_le hfl2 hb34.size) hfm 0).trans hS4.2⟩))
    all_goals
      clear hrun5 ht5 hS5 hS4 hS3
      go_wp2
      go_end0
      exact ⟨rfl, ⟨_, hR5, map_putBy (nm := RF.nm) (nm' := Fl.name) (g := RF.fl) (fun _ => rfl) _ _⟩, (Keep.of_below hbA).trans ⟨hK5.os, hK5.tape, hK5.output, hK5.size, hK5.block⟩⟩
  · go_enter Tryz.func46, Tryz.ntmps46
    go_wp2_with (at_lookup; refine wpList_look _ rfl _ _ rfl HR.out rfl s rfl (by unfold maxLen; omega) HV.out ?_)
    have hbA := hb1 (.cells #[.slice A n c, .int .i64 (sf : Int), .bool true] 72)
    have hbx := Box.new w 72 #[.slice A n c, .int .i64 (sf : Int), .bool true]
    have hW1 := HR.out.below hbA
    generalize (w.alloc (.cells #[.slice A n c, .int .i64 (sf : Int), .bool true] 72)) = W1 at hbA hbx hW1 ⊢
    have d0 : W1.cell? ⟨g, 0, none⟩ = some (.map (some bm)) := (hbA.cell hgl).trans c0
    have d1 : W1.cell? ⟨w.heap.size, 0, none⟩ = some (.slice A n c) := hbx.cell 0
    have HD := Lib.hid hW1.drew
    have HC := Lib.hid (clone_any A l c W1.drew ((hby.below hbA).more hbA.size) (by omega))
    have hgl2 : g < W1.drew.heap.size := hW1.box.lt
    have hfl2 : w.heap.size < W1.drew.heap.size := hbx.lt
    have hgm := hW1.gm
    have hfm : w.heap.size ≠ bm := by have := HR.out.mlt; omega
    clear hW1 hbx c0 hmath
    go_region_held3 (fun w' => w'.cell? ⟨g, 0, none⟩ = some (.map (some bm)) ∧ w'.cell? ⟨w.heap.size, 0, none⟩ = some (.slice A n c)) (first | exact ⟨d0, d1⟩ | assumption)
      (first
        | (go_at_call 42; (with_reducible refine HC.out.mono ?_); rintro e w3 ⟨v3, rfl, ho3, hb3⟩; obtain ⟨A3, c3, rfl, hc3⟩ := own_form ho3; have hS3 : w3.cell? ⟨g, 0, none⟩ = some (.map (some bm)) ∧ w3.cell? ⟨w.heap.size, 0, none⟩ = some (.slice A n c) := ⟨(hb3.cell hgl2).trans d0, (hb3.cell hfl2).trans d1⟩)
        | (go_at_call 61; (with_reducible refine (sure_any A3 l.length c3 w3).mono ?_); rintro e w4 ⟨rfl, hb4⟩; have hb34 : Below W1.drew.heap.size W1.drew w4 := hb3.trans (hb4.mono hb3.size); have hS4 : w4.cell? ⟨g, 0, none⟩ = some (.map (some bm)) ∧ w4.cell? ⟨w.heap.size, 0, none⟩ = some (.slice A n c) := ⟨(hb34.cell hgl2).trans d0, (hb34.cell hfl2).trans d1⟩;
           obtain ⟨w5, hrun5, hR5, hK5, ht5⟩ := HD.out.mput (w1 := w4) (row := none) s (by unfold maxLen; omega) ⟨{ r.fl with bs := l, safe := l.length, stays := true }, .slice A3 l.length c3⟩ HN.out ⟨hb34.os, hb34.tape, hb34.output, hb34.size, fun i hi _ => hb34.block i hi⟩ (fun i e => by cases e) (own_base (own_below ho3 hb4) (Nat.zero_le _)) (fun i e => .inr (HD.out.fresh (ho3.lt i e).1)) HO.out (V := .agg #[.slice A3 l.length c3, .int .i64 (l.length : Int), .bool true]) rfl;
           have hS5 : w5.cell? ⟨g, 0, none⟩ = some (.map (some bm)) ∧ w5.cell? ⟨w.heap.size, 0, none⟩ = some (.slice A n c) := ⟨(turned_cell ht5 (Nat.lt_of_lt_of_le hgl2 hb34.size) hgm 0).trans hS4.1, (turned_cell ht5 (Nat.lt_of_lt_of_le hfl2 hb34.size) hfm 0).trans hS4.2⟩))
    all_goals
      clear hrun5 ht5 hS5 hS4 hS3
      go_wp2
      go_end0
      exact ⟨rfl, ⟨_, hR5, map_putBy (nm := RF.nm) (nm' := Fl.name) (g := RF.fl) (fun _ => rfl) _ _⟩, (Keep.of_below hbA).trans ⟨hK5.os, hK5.tape, hK5.output, hK5.size, hK5.block⟩⟩

/-! ### what a boot leaves, file by file -/
theorem put_mid {f f' : Fl} (hn : f'.name = f.name) : ∀ {a b : List Fl}, Rise Fl.name (a ++ f :: b) → putBy Fl.name f' (a ++ f :: b) = a ++ f' :: b
  | [], b, _ => by
    simp only [List.nil_append, putBy, hn]
    rw [if_neg (nm_irr _), if_pos trivial]
  | q :: a, b, h => by
    obtain ⟨h1, h2⟩ := List.pairwise_cons.1 h
    have hlt : q.name < f'.name := by rw [hn]; exact h1 f (by simp)
    simp only [List.cons_append, putBy]
    rw [if_pos hlt, put_mid hn h2]
theorem del_mid {f : Fl} : ∀ {a b : List Fl}, Rise Fl.name (a ++ f :: b) → delBy Fl.name f.name (a ++ f :: b) = a ++ b
  | [], b, h => by
    obtain ⟨h1, _⟩ := List.pairwise_cons.1 h
    have e1 : delBy Fl.name f.name (f :: b) = delBy Fl.name f.name b := by simp [delBy]
    simp only [List.nil_append]
    rw [e1]
    exact delBy_same fun q hq e => nm_irr f.name (by have := h1 q hq; rw [e] at this; exact this)
  | q :: a, b, h => by
    obtain ⟨h1, h2⟩ := List.pairwise_cons.1 h
    have hne : q.name ≠ f.name := fun e => nm_irr f.name (by have := h1 f (by simp); rw [e] at this; exact this)
    have e1 : delBy Fl.name f.name (q :: (a ++ f :: b)) = q :: delBy Fl.name f.name (a ++ f :: b) := by simp [delBy, hne]
    simp only [List.cons_append]
    rw [e1, del_mid h2]
theorem bootF_app : ∀ (a b : List Fl) (k : List Int), bootF (a ++ b) k = bootF a k ++ bootF b (k.drop a.length)
  | [], _, _ => rfl
  | f :: a, b, k => by
    simp only [List.cons_append, bootF, bootF_app a b, List.append_assoc, List.length_cons]
    congr 3
    cases k <;> simp
theorem bootF_one (f : Fl) (k : List Int) : bootF [f] k = (keptF f (k.headD 0)).toList := by simp [bootF]
/-- behind i files -/
def bootTo (fs : List Fl) (k : List Int) (i : Nat) : List Fl := bootF (fs.take i) k ++ fs.drop i
theorem bootTo_0 (fs : List Fl) (k : List Int) : bootTo fs k 0 = fs := by simp [bootTo, bootF]
theorem bootTo_all (fs : List Fl) (k : List Int) : bootTo fs k fs.length = bootF fs k := by simp [bootTo]
theorem bootTo_at (fs : List Fl) (k : List Int) {i : Nat} (hi : i < fs.length) : bootTo fs k i = bootF (fs.take i) k ++ fs[i] :: fs.drop (i + 1) := by
  unfold bootTo
  rw [List.drop_eq_getElem_cons hi]
theorem bootTo_next (fs : List Fl) (k : List Int) {i : Nat} (hi : i < fs.length) : bootTo fs k (i + 1) = bootF (fs.take i) k ++ ((keptF fs[i] (k.getD i 0)).toList ++ fs.drop (i + 1)) := by
  unfold bootTo
  rw [List.take_succ_eq_append_getElem hi, bootF_app, bootF_one, List.append_assoc]
  congr 3
  have e : (fs.take i).length = i := by simp; omega
  rw [e]
  congr 1
  cases h : k.drop i with
  | nil =>
    have : k.length ≤ i := by simpa using h
    simp [List.getD, List.getElem?_eq_none this]
  | cons a t =>
    have : k[i]? = some a := by rw [← List.head?_drop, h]; rfl
    simp [List.getD, this]
theorem kept_name {f f' : Fl} {t : Int} (h : keptF f t = some f') : f'.name = f.name := by
  unfold keptF at h
  split at h
  · cases h
  · cases h; rfl
/-- a step: the file is put, or let go -/
theorem bootTo_step {fs : List Fl} {k : List Int} {i : Nat} (hi : i < fs.length) (hr : Rise Fl.name (bootTo fs k i)) :
    bootTo fs k (i + 1) = match keptF fs[i] (k.getD i 0) with | none => delBy Fl.name fs[i].name (bootTo fs k i) | some f' => putBy Fl.name f' (bootTo fs k i) := by
  rw [bootTo_at fs k hi] at hr
  rw [bootTo_next fs k hi]
  cases hk : keptF fs[i] (k.getD i 0) with
  | none =>
    simp only [Option.toList_none, List.nil_append]
    rw [bootTo_at fs k hi, del_mid hr]
  | some f' =>
    simp only [Option.toList_some, List.cons_append, List.nil_append]
    rw [bootTo_at fs k hi, put_mid (kept_name hk) hr]

theorem sure_ok {s : St} (h : s.Ok) {f : Fl} (hf : f ∈ s.fs) {L : Nat} (hL : L ≤ f.bs.length) : St.Ok ⟨putBy Fl.name (sureF f L) s.fs, s.cap, s.fuse, s.down⟩ := by
  have hl : lookBy Fl.name (sureF f L).name s.fs = some f := lookBy_mem h.rise hf
  refine h.put (sureF f L) (by simp [sureF]; omega) ?_ (fun hn => by rw [hl] at hn; cases hn) (h.good f hf)
  rw [hl]
  have := h.used
  simp only [Option.map_some, Option.getD_some, sureF, List.length_take]
  omega
theorem left_le {f : Fl} (h : f.safe ≤ f.bs.length) (t : Int) : leftF f t ≤ f.bs.length := by unfold leftF; omega
/-- restore, whatever is left -/
theorem restore_any (g bm : Nat) (X : Nat → Prop) (rs : List RF) (cap fuse : Nat) (s : ByteArray) (r : RF) (told : Int) (w : World) (h : Raw w g X bm rs cap fuse false) (hs : s.size ≤ 1073741824) (hl : lookBy RF.nm s.data.toList rs = some r) (hlo : -9223372036854775808 ≤ told) (hhi : told ≤ 9223372036854775807) :
    Calls Tryz.prog 46 #[.pointer (some ⟨g, 0, none⟩), .string s, .int .i64 told] w fun e w' => e = .returned (.tuple #[]) ∧
      (∃ rs', Raw w' g X bm rs' cap fuse false ∧ rs'.map RF.fl = match keptF r.fl told with | none => delBy Fl.name r.fl.name (rs.map RF.fl) | some f' => putBy Fl.name f' (rs.map RF.fl)) ∧ Keep X w w' := by
  obtain ⟨hr, hrn⟩ := lookBy_some hl
  have hmem : r.fl ∈ rs.map RF.fl := List.mem_map.2 ⟨r, hr, rfl⟩
  by_cases hk : leftF r.fl told = 0 ∧ r.fl.stays = false
  · have e : keptF r.fl told = none := by unfold keptF; rw [if_pos hk]
    rw [e]
    refine (restore_del g bm X rs cap fuse s r told w h hs hl hlo hhi hk.1 hk.2).mono ?_
    rintro e w' ⟨rfl, hR, hK⟩
    refine ⟨rfl, ⟨_, hR, ?_⟩, hK⟩
    rw [map_delBy (nm := RF.nm) (nm' := Fl.name) (g := RF.fl) (fun _ => rfl)]
    have : r.fl.name = s.data.toList := hrn
    rw [this]
  · have e : keptF r.fl told = some (sureF r.fl (leftF r.fl told)) := by unfold keptF; rw [if_neg hk]
    rw [e]
    refine (restore_keep g bm X rs cap fuse s r told _ w h hs hl rfl (by
      by_cases h0 : leftF r.fl told = 0
      · right
        cases hs : r.fl.stays with
        | true => rfl
        | false => exact absurd ⟨h0, hs⟩ hk
      · exact .inl h0) (sure_ok h.ok hmem (left_le (h.ok.safe _ hmem) told))).mono ?_
    rintro e w' ⟨rfl, ⟨rs', hR, hm⟩, hK⟩
    exact ⟨rfl, ⟨rs', hR, hm⟩, hK⟩
end Go.Proofs.YtohnhboeipckjaaGreatDoor
