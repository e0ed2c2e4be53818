/-
  The statement SagaCarriesCardSaid: for every input the law function SagaCarries returns true (answered well, a saga is Completed behind as many commands as steps; cancelled, Compensated behind as many undoings), and the arguments read afterwards as before.
  Conditions: none beyond the statement's own (the listed tables of the library hold what its text lays).
-/
import Derived.Test.YtkmldgcnbjjbcaaDoorSagLaw
import Derived.Test.YtkmldgcnbjjbcaaDoorSagReply
import Derived.Test.YtkmldgcnbjjbcaaDoorSagCarryMath
namespace Go.Proofs.YtkmldgcnbjjbcaaDoor.sagaCarries
open Go.Proofs.YtkmldgcnbjjbcaaDoor.Sa Go.Proofs.YtkmldgcnbjjbcaaDoor.Df Go.Proofs.YtkmldgcnbjjbcaaDoor.El
open Go.Proofs.YtkmldgcnbjjbcaaDoor.Bo (P Made ret_int ret_bool)
open Go.ChangeShapes Go.WideShapes Go.ChangeAt Go.RowKit Go.Sort
open Go.ChangeMaps (open_string shut_string)

/-- where the way forward stands -/
def Fw (nm : ByteArray) (n : Nat) (now : Int) (k : Nat) (x : Sg) : Prop := (k < n ∧ ∃ a, now ≤ a ∧ a ≤ now + (k : Int) ∧ x = runS nm now (k : Int) a) ∨ (k = n ∧ x.ph = 3)
/-- where the way back stands -/
def Bw (nm : ByteArray) (now : Int) (i : Int) (x : Sg) : Prop := (0 ≤ i ∧ ∃ a, now ≤ a ∧ a ≤ now + 100 ∧ x = undS nm now i a) ∨ (i = -1 ∧ x.ph = 4 ∧ x.sk = 0)
section
variable {nm : ByteArray} {A : Option Addr} {n c : Nat} {ss : List Stp} {w : World} {now i a t : Int} (hd : Dn w nm A n c ss) (hr : RightD nm 0 ss) (hT : 0 ≤ now ∧ now < 4294967296) (hi : 0 ≤ i ∧ i < n) (ha : now ≤ a ∧ a ≤ t) (ht : t ≤ 4294967496)
include hd hr hT hi ha ht
theorem carry_emit (ph : Int) (hp : ph = 0 ∨ ph = 1) : ∃ (p k : ByteArray), ∀ W, Below w.heap.size w W → Calls Tryd.prog 33 #[.agg #[.string nm, .int .i64 0, .slice A n c], .agg #[.int .i64 3, .string nm, .int .i64 now, .int .i64 ph, .int .i64 i, .int .i64 0, .bool false, .int .i64 a, .int .i64 0], .int .i64 t] W fun e w' =>
    e = .returned (.tuple #[.agg #[.int .i64 3, .string nm, .int .i64 now, .int .i64 ph, .int .i64 i, .int .i64 1, .bool true, .int .i64 (addT t (stp ss i).tm), .int .i64 0], .agg #[.int .i64 3, .int .i64 i, .bool (decide (ph = 1)), .int .i64 1, .string p, .string k], .int .i64 0]) ∧ Below W.heap.size W w' := by
  refine ⟨(stp ss i).pt, keyS ⟨3, nm, now, ph, i, 0, false, a, 0⟩ ss, fun W hW => ?_⟩
  have h := emit_any nm 0 A n c ss ⟨3, nm, now, ph, i, 0, false, a, 0⟩ W (hd.on hW) t (by show (0 : Int) ≤ _; decide) (by show (3 : Int) ≤ _; decide)
  rw [run_emit hr ⟨hT.1, by omega⟩ ⟨hi.1, by have := hd.en; omega⟩ ha ht ph hp] at h
  exact h
theorem carry_reply (ph : Int) (hp : ph = 0 ∨ ph = 1) : ∃ z : Sg, z = doneS n (emitS ss ⟨3, nm, now, ph, i, 0, false, a, 0⟩ t) t ∧ ∀ W, Below w.heap.size w W → Calls Tryd.prog 34 #[.agg #[.string nm, .int .i64 0, .slice A n c], .agg #[.int .i64 3, .string nm, .int .i64 now, .int .i64 ph, .int .i64 i, .int .i64 1, .bool true, .int .i64 (addT t (stp ss i).tm), .int .i64 0], .agg #[.int .i64 3, .int .i64 i, .bool (decide (ph = 1)), .int .i64 1, .bool true], .int .i64 t] W fun e w' =>
    e = .returned (.tuple #[.agg #[.int .i64 z.id, .string z.dn, .int .i64 z.st, .int .i64 z.ph, .int .i64 z.sp, .int .i64 z.tr, .bool z.out, .int .i64 z.at_, .int .i64 z.sk], .int .i64 0]) ∧ Below W.heap.size W w' := by
  refine ⟨_, rfl, fun W hW => ?_⟩
  have h := reply_any nm 0 A n c ss (emitS ss ⟨3, nm, now, ph, i, 0, false, a, 0⟩ t) ⟨3, i, decide (ph = 1), 1, true⟩ W (hd.on hW) t (by show (0 : Int) + 1 ≤ _; decide)
  rw [run_reply hr ⟨hT.1, by omega⟩ ⟨hi.1, by have := hd.en; omega⟩ ha ht ph hp _ rfl, ← hd.en] at h
  exact h
end
set_option maxHeartbeats 8000000 in
set_option maxRecDepth 100000 in
theorem walk (nm : ByteArray) (dl : Int) (A : Option Addr) (c : Nat) (ss : List Stp) (now stop : Int) (w : World) (hnow : 0 ≤ now ∧ now < 4294967296) (hstop : 0 ≤ stop ∧ stop < 256) (hT : Tab w) (hnz : nm.size ≤ 140737488355328) (hl : ss.length ≤ 9223372036854775807) (hc : ss.length ≤ c) (hf : ∀ s ∈ ss, s.Fits ∧ Big s) (he : Df.Steps w w.heap.size A ss) :
    Calls Tryd.prog 9 #[.agg #[.string nm, .int .i64 dl, .slice A ss.length c], .int .u32 now, .int .u8 stop] w fun e w' => e = .returned (.bool true) ∧ Below w.heap.size w w' := by
  obtain ⟨n, hn⟩ : ∃ n, n = ss.length := ⟨_, rfl⟩
  rw [← hn] at hl hc ⊢
  have HA : Hid (∀ w', Below w.heap.size w w' → Calls Tryd.prog 24 #[] w' fun e w'' => e = .returned (.bool true) ∧ Below w'.heap.size w' w'') := Lib.hid fun w' h => awake_any w' (tab_below hT h)
  have HSm : Hid (∀ w', Below w.heap.size w w' → Calls Tryd.prog 11 #[.agg #[.string nm, .int .i64 0, .slice A n c]] w' fun e w'' => e = .returned (.int .i64 (smallI nm ss)) ∧ Below w'.heap.size w' w'') := Lib.hid fun w' h => (small_any nm 0 A c ss n w' hn hl (by omega) (fun s hs => (hf s hs).1) (he.on h)).mono fun e w'' ⟨h1, h2⟩ => ⟨h1, h2.below⟩
  have hck : ∀ W, Below w.heap.size w W → Calls Tryd.prog 13 #[.agg #[.string nm, .int .i64 0, .slice A n c]] W (ChkPost nm 0 ss W) := fun W hW => rcheck_any nm 0 A c ss n W hn hl (he.on hW) hnz (fun s hs => (hf s hs).2)
  obtain ⟨hC1, hC0⟩ := chk_ok hck
  by_cases hr : RightD nm 0 ss
  · have HC := Lib.hid (hC1 hr)
    by_cases hq : smallI nm ss = 0
    · rw [hq] at HSm
      obtain ⟨s40, snm, sst⟩ := small_yes hq
      have hd : Dn w nm A n c ss := ⟨hn, by omega, hc, he, by omega, fun s hs => by have := sst s hs; omega, hT⟩
      have HDn := Lib.hid hd
      have hlen := (right_all hr).1
      have hn1 : 1 ≤ n ∧ n ≤ 32 := by omega
      have HB : Hid (∀ W, Calls Tryd.prog 25 #[.agg #[.string nm, .int .i64 0, .slice A n c], .int .i64 3, .int .i64 now] W fun e w' => e = .returned (.agg #[.int .i64 3, .string nm, .int .i64 now, .int .i64 0, .int .i64 0, .int .i64 0, .bool false, .int .i64 now, .int .i64 0]) ∧ Made W w') := Lib.hid fun W => by
        have h := begin_any nm 0 A n c 3 now W
        unfold beginS Sg.arr at h
        rwa [ofT_id (n := now) hnow.1 (by omega)] at h
      have HR := Lib.hid hr
      have HN := Lib.hid hn
      have hx : Below w.heap.size w w := Below.refl _ _
      clear hT hnz hl hc hf he hck hC1 hC0 hr hq s40 snm sst hd hlen hn hx
      go_enter Tryd.func9, Tryd.ntmps9
      go_wp2_with (first
        | (go_at_call 24; (with_reducible refine (HA.out _ (al1 w _)).mono ?_); rintro e w1 ⟨rfl, hb⟩; have H0 := Lib.hid (ld_start hb); clear hb; obtain ⟨d0, d1, d2⟩ := H0.out.cd; have f1 := H0.out.d.frozen 1; have H1 := Lib.hid (H0.out.setDl 0))
        | (go_at_call 13; (with_reducible refine (HC.out _ H1.out.b).mono ?_); rintro e w2 ⟨k, rfl, hb⟩; have H2 := Lib.hid (H1.out.on hb); clear hb; obtain ⟨d0, d1, d2⟩ := H2.out.cd)
        | (go_at_call 11; (with_reducible refine (HSm.out _ H2.out.b).mono ?_); rintro e w3 ⟨rfl, hb⟩; have H3 := Lib.hid (H2.out.on hb); clear hb; obtain ⟨d0, d1, d2⟩ := H3.out.cd)
        | (go_at_call 25; (with_reducible refine (HB.out _).mono ?_); rintro e w4 ⟨rfl, hm⟩; have H4 := Lib.hid (H3.out.on hm.below); clear hm; obtain ⟨d0, d1, d2⟩ := H4.out.cd))
      have hq0 : 0 ≤ stop % ((n : Int) + 1) ∧ stop % ((n : Int) + 1) < (n : Int) + 1 := ⟨Int.emod_nonneg _ (by omega), Int.emod_lt_of_pos _ (by omega)⟩
      obtain ⟨q, hqe⟩ : ∃ q : Nat, stop % ((n : Int) + 1) = (q : Int) := ⟨(stop % ((n : Int) + 1)).toNat, by omega⟩
      rw [hqe]
      have hqn : q ≤ n := by omega
      have H5 := Lib.hid (Ld.aw (s := runS nm now 0 now) H4.out (Below.refl _ _))
      have HF0 : Hid (Fw nm n now 0 (runS nm now 0 now)) := Lib.hid (.inl ⟨by omega, now, Int.le_refl _, by omega, rfl⟩)
      clear hqe hq0 d0 d1 d2 f1 HA HSm HC HB H0 H1 H2 H3 H4 hstop
      unfold runS at H5
      dsimp only at H5
      generalize w4.heap.size = g at *
      generalize w4.alloc _ = W5 at *
      go_loopw [11] (fun vi wr => ∃ (k : Nat) (x : Sg), vi = .int .i64 (k : Int) ∧ k ≤ q ∧ Hid (Aw w wr w.heap.size g nm 0 A n c x) ∧ Hid (Fw nm n now k x)) (fun vi _ => q - (intOf vi).toNat)
      case atStart => exact ⟨0, _, rfl, Nat.zero_le _, H5, HF0⟩
      case round =>
        obtain ⟨k, x, rfl, hk, HW, HF⟩ := hrel
        by_cases hkq : k < q
        · obtain ⟨a, ha1, ha2, hx⟩ : ∃ a, now ≤ a ∧ a ≤ now + (k : Int) ∧ x = runS nm now (k : Int) a := by
            rcases HF.out with ⟨_, a, h1, h2, h3⟩ | ⟨h1, _⟩
            · exact ⟨a, h1, h2, h3⟩
            · omega
          subst hx
          obtain ⟨p, ky, hE⟩ := carry_emit HDn.out HR.out hnow (i := (k : Int)) ⟨by omega, by omega⟩ ⟨ha1, ha2⟩ (by omega) 0 (.inl rfl)
          obtain ⟨z, hz, hRp⟩ := carry_reply HDn.out HR.out hnow (i := (k : Int)) ⟨by omega, by omega⟩ ⟨ha1, ha2⟩ (by omega) 0 (.inl rfl)
          rw [show decide ((0 : Int) = 1) = false from rfl] at hE hRp
          have HFn : Hid (Fw nm n now (k + 1) z) := Lib.hid (by
            rw [hz]
            rcases run_done (nm := nm) (ss := ss) (T := now) (i := (k : Int)) (at_ := a) (t := now + (k : Int)) (n := n) ⟨by omega, by omega⟩ with ⟨h1, h2⟩ | ⟨h1, h2⟩
            · exact .inl ⟨by omega, now + (k : Int), by omega, by omega, h2.trans (by rw [show (((k + 1 : Nat)) : Int) = (k : Int) + 1 by omega])⟩
            · exact .inr ⟨by omega, h2⟩)
          have HE := Lib.hid hE
          have HRp := Lib.hid hRp
          generalize addT (now + (k : Int)) (stp ss (k : Int)).tm = a2 at *
          clear hE hRp hz HF
          obtain ⟨d0, d1, d2⟩ := HW.out.cd
          obtain ⟨c0, c1, c2, c3, c4, c5, c6, c7, c8⟩ := HW.out.cs
          unfold runS at c0 c1 c2 c3 c4 c5 c6 c7 c8
          dsimp only at c0 c1 c2 c3 c4 c5 c6 c7 c8
          go_wp2_with (first
            | (go_at_call 33; (with_reducible refine (HE.out _ HW.out.bel).mono ?_); rintro e v1 ⟨rfl, hb⟩; have H6 := Lib.hid (HW.out.on hb); clear hb; obtain ⟨d0, d1, d2⟩ := H6.out.cd; have d0a := fun o o' => cell_al (cell_al d0 o) o'; have d1a := fun o o' => cell_al (cell_al d1 o) o'; have d2a := fun o o' => cell_al (cell_al d2 o) o')
            | (go_at_call 34; (with_reducible refine (HRp.out _ (bel_al2 H6.out.bel _ _)).mono ?_); rintro e v2 ⟨rfl, hb⟩; have H7 := Lib.hid ((H6.out.on (al2 v1 _ _)).on hb); have HCb := Lib.hid ((box_new2 v1 _ 56 #[.int .i64 3, .int .i64 (k : Int), .bool false, .int .i64 1, .string p, .string ky]).below hb (by simp)); clear hb; have k1 : v2.cell? ⟨v1.heap.size + 1, 1, none⟩ = some (.int .i64 (k : Int)) := HCb.out.cell 1; have k2 : v2.cell? ⟨v1.heap.size + 1, 2, none⟩ = some (.bool false) := HCb.out.cell 2; have k1a := fun o => cell_al k1 o; have k2a := fun o => cell_al k2 o)
            | (obtain ⟨cs, hcs, hsz⟩ := (Box.slot (H7.out.s.alloc _) rfl : Slot _ _ _ 9); refine wpList_store_row rfl 53 _ _ rfl (g) 53 cs (z).arr rfl rfl hcs (sizeG _) hsz (oneG _) ?_))
          go_roundw
          case rel => exact ⟨k + 1, z, by go_num, by omega, Lib.hid ((H7.out.on (al1 v2 _)).set z), HFn⟩
          case measure => simp only [intOf]; omega
        · obtain rfl : k = q := by omega
          obtain ⟨d0, d1, d2⟩ := HW.out.cd
          by_cases hkn : k = n
          · have hph : x.ph = 3 := by
              rcases HF.out with ⟨h1, _⟩ | ⟨_, h2⟩
              · omega
              · exact h2
            have g1 : ((k : Int) == (n : Int)) = true := by simp [hkn]
            obtain ⟨c0, c1, c2, c3, c4, c5, c6, c7, c8⟩ := HW.out.cs
            rw [hph] at c3
            clear hkn hph HF
            go_wp2
            go_ret
            exact ⟨rfl, HW.out.bel⟩
          · have g1 : ((k : Int) == (n : Int)) = false := by simp; omega
            obtain ⟨a, ha1, ha2, hx⟩ : ∃ a, now ≤ a ∧ a ≤ now + (k : Int) ∧ x = runS nm now (k : Int) a := by
              rcases HF.out with ⟨_, a, h1, h2, h3⟩ | ⟨h1, _⟩
              · exact ⟨a, h1, h2, h3⟩
              · omega
            subst hx
            obtain ⟨z, hz⟩ : ∃ z, z = aheadS (runS nm now (k : Int) a) 4 (now + (k : Int)) := ⟨_, rfl⟩
            have HCn : Hid (∀ W, Below w.heap.size w W → Calls Tryd.prog 35 #[.agg #[.string nm, .int .i64 0, .slice A n c], .agg #[.int .i64 3, .string nm, .int .i64 now, .int .i64 0, .int .i64 (k : Int), .int .i64 0, .bool false, .int .i64 a, .int .i64 0], .int .i64 (now + (k : Int))] W fun e w' =>
                e = .returned (.tuple #[.agg #[.int .i64 z.id, .string z.dn, .int .i64 z.st, .int .i64 z.ph, .int .i64 z.sp, .int .i64 z.tr, .bool z.out, .int .i64 z.at_, .int .i64 z.sk], .int .i64 0]) ∧ Below W.heap.size W w') := Lib.hid fun W hW => by
              have h := cancel_any nm 0 A n c ss (runS nm now (k : Int) a) W (HDn.out.on hW) (now + (k : Int))
              rw [run_cancel HR.out ⟨hnow.1, by omega⟩ ⟨by omega, by have := HN.out; omega⟩ ⟨ha1, ha2⟩ (by omega), ← hz] at h
              exact h
            have HB0 : Hid (Bw nm now ((k : Int) - 1) z) := Lib.hid (by
              rw [hz]
              rcases cancel_is (nm := nm) (T := now) (i := (k : Int)) (at_ := a) (t := now + (k : Int)) (by omega) with ⟨h1, h2⟩ | ⟨h1, h2, h3⟩
              · exact .inl ⟨by omega, now + (k : Int), by omega, by omega, h2⟩
              · exact .inr ⟨by omega, h2, h3⟩)
            obtain ⟨c0, c1, c2, c3, c4, c5, c6, c7, c8⟩ := HW.out.cs
            unfold runS at c0 c1 c2 c3 c4 c5 c6 c7 c8
            dsimp only at c0 c1 c2 c3 c4 c5 c6 c7 c8
            clear hz HF hkn ha1 ha2
            go_wp2_with (first
              | (go_at_call 35; (with_reducible refine (HCn.out _ HW.out.bel).mono ?_); rintro e v1 ⟨rfl, hb⟩; have H6 := Lib.hid (HW.out.on hb); clear hb; have hgl := H6.out.s.lt)
              | (obtain ⟨cs, hcs, hsz⟩ := (Box.slot (H6.out.s.alloc _) rfl : Slot _ _ _ 9); refine wpList_store_row rfl 53 _ _ rfl (g) 53 cs (z).arr rfl rfl hcs (sizeG _) hsz (oneG _) ?_))
            have H7 := Lib.hid ((H6.out.on (al1 v1 (.cells #[.int .i64 z.id, .string z.dn, .int .i64 z.st, .int .i64 z.ph, .int .i64 z.sp, .int .i64 z.tr, .bool z.out, .int .i64 z.at_, .int .i64 z.sk] 53))).set z)
            clear H6 HW c0 c1 c2 c3 c4 c5 c6 c7 c8 d0 d1 d2 g1 hgl
            unfold Sg.arr at H7
            unfold Sg.arr
            generalize ((v1.alloc _).setRow g _) = W7 at *
            go_loopw [19] (fun vi wr => ∃ (i : Int) (x : Sg), vi = .int .i64 i ∧ -1 ≤ i ∧ i < (k : Int) ∧ Hid (Aw w wr w.heap.size g nm 0 A n c x) ∧ Hid (Bw nm now i x)) (fun vi _ => (intOf vi + 1).toNat)
            case atStart => exact ⟨(k : Int) - 1, z, rfl, by omega, by omega, H7, HB0⟩
            case round =>
              obtain ⟨i, x, rfl, hi1, hik, HW, HF⟩ := hrel
              by_cases hi0 : 0 ≤ i
              · obtain ⟨a, ha1, ha2, hx⟩ : ∃ a, now ≤ a ∧ a ≤ now + 100 ∧ x = undS nm now i a := by
                  rcases HF.out with ⟨_, a, h1, h2, h3⟩ | ⟨h1, _⟩
                  · exact ⟨a, h1, h2, h3⟩
                  · omega
                subst hx
                obtain ⟨p, ky, hE⟩ := carry_emit HDn.out HR.out hnow (i := i) (t := now + 100) ⟨by omega, by omega⟩ ⟨ha1, ha2⟩ (by omega) 1 (.inr rfl)
                obtain ⟨z, hz, hRp⟩ := carry_reply HDn.out HR.out hnow (i := i) (t := now + 100) ⟨by omega, by omega⟩ ⟨ha1, ha2⟩ (by omega) 1 (.inr rfl)
                rw [show decide ((1 : Int) = 1) = true from rfl] at hE hRp
                have HFn : Hid (Bw nm now (i - 1) z) := Lib.hid (by
                  rw [hz]
                  rcases und_done (nm := nm) (ss := ss) (T := now) (i := i) (at_ := a) (t := now + 100) (n := n) hi0 with ⟨h1, h2⟩ | ⟨h1, h2, h3⟩
                  · exact .inl ⟨by omega, now + 100, by omega, by omega, h2⟩
                  · exact .inr ⟨by omega, h2, h3⟩)
                have HE := Lib.hid hE
                have HRp := Lib.hid hRp
                generalize addT (now + 100) (stp ss i).tm = a2 at *
                clear hE hRp hz HF
                obtain ⟨d0, d1, d2⟩ := HW.out.cd
                obtain ⟨c0, c1, c2, c3, c4, c5, c6, c7, c8⟩ := HW.out.cs
                unfold undS at c0 c1 c2 c3 c4 c5 c6 c7 c8
                dsimp only at c0 c1 c2 c3 c4 c5 c6 c7 c8
                go_wp2_with (first
                  | (go_at_call 33; (with_reducible refine (HE.out _ HW.out.bel).mono ?_); rintro e v1 ⟨rfl, hb⟩; have H6 := Lib.hid (HW.out.on hb); clear hb; obtain ⟨d0, d1, d2⟩ := H6.out.cd; have d0a := fun o o' => cell_al (cell_al d0 o) o'; have d1a := fun o o' => cell_al (cell_al d1 o) o'; have d2a := fun o o' => cell_al (cell_al d2 o) o')
                  | (go_at_call 34; (with_reducible refine (HRp.out _ (bel_al2 H6.out.bel _ _)).mono ?_); rintro e v2 ⟨rfl, hb⟩; have H8 := Lib.hid ((H6.out.on (al2 v1 _ _)).on hb); have HCb := Lib.hid ((box_new2 v1 _ 56 #[.int .i64 3, .int .i64 i, .bool true, .int .i64 1, .string p, .string ky]).below hb (by simp)); clear hb; have k1 : v2.cell? ⟨v1.heap.size + 1, 1, none⟩ = some (.int .i64 i) := HCb.out.cell 1; have k2 : v2.cell? ⟨v1.heap.size + 1, 2, none⟩ = some (.bool true) := HCb.out.cell 2; have k1a := fun o => cell_al k1 o; have k2a := fun o => cell_al k2 o)
                  | (obtain ⟨cs, hcs, hsz⟩ := (Box.slot (H8.out.s.alloc _) rfl : Slot _ _ _ 9); refine wpList_store_row rfl 53 _ _ rfl (g) 53 cs (z).arr rfl rfl hcs (sizeG _) hsz (oneG _) ?_))
                go_roundw
                case rel => exact ⟨i - 1, z, rfl, by omega, by omega, Lib.hid ((H8.out.on (al1 v2 _)).set z), HFn⟩
                case measure => simp only [intOf]; omega
              · have hx : x.ph = 4 ∧ x.sk = 0 := by
                  rcases HF.out with ⟨h1, _⟩ | ⟨_, h2⟩
                  · omega
                  · exact h2
                obtain ⟨c0, c1, c2, c3, c4, c5, c6, c7, c8⟩ := HW.out.cs
                rw [hx.1] at c3
                rw [hx.2] at c8
                clear hx HF
                go_wp2
                go_ret
                exact ⟨rfl, HW.out.bel⟩
    · have g0 : (smallI nm ss != 0) = true := by simpa using hq
      clear hT hnz hl hc hf he hck hC1 hC0 hr hq hn
      go_enter Tryd.func9, Tryd.ntmps9
      go_wp2_with (first
        | (go_at_call 24; (with_reducible refine (HA.out _ (al1 w _)).mono ?_); rintro e w1 ⟨rfl, hb⟩; have H0 := Lib.hid (ld_start hb); clear hb; obtain ⟨d0, d1, d2⟩ := H0.out.cd; have f1 := H0.out.d.frozen 1; have H1 := Lib.hid (H0.out.setDl 0))
        | (go_at_call 13; (with_reducible refine (HC.out _ H1.out.b).mono ?_); rintro e w2 ⟨k, rfl, hb⟩; have H2 := Lib.hid (H1.out.on hb); clear hb; obtain ⟨d0, d1, d2⟩ := H2.out.cd)
        | (go_at_call 11; (with_reducible refine (HSm.out _ H2.out.b).mono ?_); rintro e w3 ⟨rfl, hb⟩; have H3 := Lib.hid (H2.out.on hb); clear hb))
      go_ret
      exact ⟨rfl, H3.out.b⟩
  · have HC := Lib.hid (hC0 hr)
    clear hT hnz hl hc hf he hck hC1 hC0 hr hn
    generalize smallI nm ss = q at *
    go_enter Tryd.func9, Tryd.ntmps9
    go_wp2_with (first
      | (go_at_call 24; (with_reducible refine (HA.out _ (al1 w _)).mono ?_); rintro e w1 ⟨rfl, hb⟩; have H0 := Lib.hid (ld_start hb); clear hb; obtain ⟨d0, d1, d2⟩ := H0.out.cd; have f1 := H0.out.d.frozen 1; have H1 := Lib.hid (H0.out.setDl 0))
      | (go_at_call 13; (with_reducible refine (HC.out _ H1.out.b).mono ?_); rintro e w2 ⟨k, ev, rfl, hev, hb⟩; have H2 := Lib.hid (H1.out.on hb); clear hb; obtain ⟨d0, d1, d2⟩ := H2.out.cd)
      | (go_at_call 11; (with_reducible refine (HSm.out _ H2.out.b).mono ?_); rintro e w3 ⟨rfl, hb⟩; have H3 := Lib.hid (H2.out.on hb); clear hb))
    all_goals
      go_ret
      exact ⟨rfl, H3.out.b⟩

theorem tab_of_laid {W : World} (h : laidMetH Tryd.prog Rows.sagaCarriesRow.laid W) : Tab W := by
  rw [MakeChecks.laidMetH_plain _ _ _ (by kernel_rfl)] at h
  have h2 := laidMet.tail (laidMet.tail h)
  have e : (Rows.laid_internal_strconv_uint64pow10 : DataW Unit) = Lib.tabData .u64 Lib.pow10Tab := by kernel_rfl
  rw [show (Rows.laid_internal_strconv_uint64pow10 : DataW Unit) = Lib.tabData .u64 Lib.pow10Tab from e] at h2
  exact Lib.tabIs_of_head (g := 1) (t := 140) (e := 132) (n := 20) (by kernel_rfl) (by kernel_rfl) Tryd.underlying140 Tryd.underlying132 (by kernel_rfl) (by kernel_rfl) h2
set_option maxRecDepth 100000 in
theorem lifted (os : Os) (started : os.Started) (H : Type) (enc : TypeId × Value → H) :
    ReturnsInHanded {} Tryd.checked os 9 .any (fun w args => (Rows.sagaCarriesSpec.pre enc Tryd.prog Tryd.f9 Rows.sagaCarriesRow.domain false w args ∧ laidMetH Tryd.prog Rows.sagaCarriesRow.laid w) ∧ sizedMet enc Tryd.prog Tryd.f9 (OpenSpec.ofChange Rows.sagaCarriesSpec) false w args)
      (Rows.sagaCarriesSpec.post enc Tryd.prog Tryd.f9 false true false false) := by
  refine returns_both (C := Tryd.checked) (X := fun w _ => laidMetH Tryd.prog Rows.sagaCarriesRow.laid w) (fun _ _ _ hh h => h.of_heap hh) own started (by kernel_rfl) Tryd.func9
    (ChangeSpec.witness_shaped (enc := enc) (C := Tryd.checked) (os := os) (X := fun w _ => laidMetH Tryd.prog Rows.sagaCarriesRow.laid w) false (World.laidAll Tryd.prog os Rows.sagaCarriesRow.laid) #[.agg #[.string ⟨#[]⟩, .int .i64 0, .slice none 0 0], .int .u32 0, .int .u8 0] 8 (World.laidAll_os _ _ _)
      (World.shaped_of_ZipB (by kernel_rfl) (by kernel_rfl)) (by kernel_rfl) (by kernel_rfl) (by kernel_rfl)
      (by rw [MakeChecks.laidMetH_plain _ _ _ (by kernel_rfl)]; exact laidMet_laidAll _ (by kernel_rfl) (by kernel_rfl))) ?_
  intro W base args ds gs before hval0 hW hreach0 hlaid _
  have hT : Tab W := tab_of_laid hlaid
  have hval : ∀ (j : Nat) t v, Tryd.f9.params[j]? = some t → args[j]? = some v → Value.okWide Tryd.prog W .any base t v := hval0
  have hW' := hW
  obtain ⟨p, q, hA0, hV, rfl, _, _⟩ := hW
  have hreach : (DataW.weightsEach Tryd.prog (Tryd.f9.params.toList ++ Rows.sagaCarriesSpec.plain.varTypes Tryd.prog) (ds ++ gs)).all (· ≤ reachBytes) = true := hreach0
  have hA : DataW.TrodAll enc Tryd.prog W 0 (fun _ => true) true Tryd.f9.params.toList args.toList ds p := hA0
  rw [Tryd.params9] at hA hval hreach
  obtain ⟨rfl, rfl⟩ := trodVars_none hV
  obtain ⟨v0, vs0, d0, ds0, p0, q0, hargs, rfl, rfl, h0, r0⟩ := trodAll_cons hA
  obtain ⟨v1, vs1, d1, ds1, p1, q1, rfl, rfl, rfl, h1, r1⟩ := trodAll_cons r0
  obtain ⟨v2, vs2, d2, ds2, p2, q2, rfl, rfl, rfl, h2, r2⟩ := trodAll_cons r1
  obtain ⟨rfl, rfl, rfl⟩ := trodAll_nil r2
  obtain rfl : args = #[v0, v1, v2] := by cases args; simp_all
  obtain ⟨nm0, dl0, A0, c0, ss0, y0, z0, n0, cc0, f0, e0⟩ := arg_dn (hval 0 24 v0 rfl rfl) h0 (fun m hm => by have := List.all_eq_true.1 hreach m (DataW.weights_mem_each (j := 0) rfl rfl m hm); simpa using this)
  subst y0
  obtain ⟨a1, rfl, rfl, rfl, w1⟩ := open_int Tryd.underlying73 (hval 1 73 v1 rfl rfl) h1
  obtain ⟨a2, rfl, rfl, rfl, w2⟩ := open_int Tryd.underlying5 (hval 2 5 v2 rfl rfl) h2
  clear hA0 hval0
  simp only [List.append_nil] at hW'
  have hlt0 : ∀ x ∈ p0, x.block < W.heap.size := fun x hx => by simpa using hW'.lt x (by simp [hx])
  refine (walk nm0 dl0 A0 c0 ss0 a1 a2 W (by have := fits (lo := 0) (hi := 4294967295) w1 rfl rfl; omega) (by have := fits (lo := 0) (hi := 255) w2 rfl rfl; omega) hT z0 n0 cc0 f0 e0).mono fun e W' ⟨he, bel⟩ => ?_
  subst he
  exact ⟨_, rfl, _, _, _, [], _, [], hW', trodAll_mk1 (shut_bool Tryd.underlying4 _), (trodAll_cons_mk (Below.trod laidOut (by kernel_rfl) (of_decide_eq_true (by kernel_rfl)) h0 bel hlt0) (trodAll_cons_mk (shut_int Tryd.underlying73 w1) (trodAll_cons_mk (shut_int Tryd.underlying5 w2) trodAll_mk0))), rfl, bel.frame _, fun h => by cases h⟩

theorem over : Rows.sagaCarriesRow.holds Tryd.pinned (OpenSpec.ofChange Rows.sagaCarriesSpec) :=
  OpenClaim.holds_of_wide 9 Tryd.f9 rfl rfl rfl rfl rfl rfl rfl ⟨rfl, rfl, rfl, rfl, rfl⟩ rfl rfl rfl rfl rfl (by kernel_rfl) Tryd.func9 (by kernel_rfl)
    (of_decide_eq_true (by kernel_rfl)) (by unfold Func.isWrapper; first | (rw [if_pos (by decide +kernel)]; kernel_rfl) | (rw [if_neg (by decide +kernel)]; exact ⟨rfl, rfl⟩))
    (fun os started H enc _ => lifted os started H enc)

/-- the statement -/
theorem proved : Rows.SagaCarriesCardSaid :=
  Claim7.holds_tied_plain_at .later [] [.data, .data, .data] true Rows.sagaCarriesCard.stood.harness false over (fun _ h => by cases h) (by kernel_rfl) (fun _ h => by cases h) sagaCarries_row_tie rfl ⟨rfl, rfl⟩ (by kernel_rfl) rfl
    (fun f fn hf hfn => by
      obtain rfl : f = 9 := Option.some.inj ((show Tryd.prog.funcNamed Rows.sagaCarriesRow.func = some 9 by kernel_rfl).symm.trans hf) |>.symm
      obtain rfl : fn = Tryd.f9 := (Option.some.inj (Tryd.func9.symm.trans hfn)).symm
      exact ⟨by kernel_rfl, fun j t ht => by
        rw [Tryd.params9] at ht
        have hm : t ∈ [24, 73, 5] := by simpa using Array.mem_of_getElem? ht
        have hall : ([24, 73, 5].all fun u => !Tryd.prog.wantsStandIn u) = true := by kernel_rfl
        exact (show Tryd.prog.wantsStandIn t = false by simpa using List.all_eq_true.1 hall t hm)⟩)
    (by kernel_rfl)
#print axioms proved
end Go.Proofs.YtkmldgcnbjjbcaaDoor.sagaCarries
