/-
  The walk of LanePasses.
-/
import Derived.Test.YtkigeakaedkjpaaKLives
namespace Go.Proofs.Ytkigeakaedkjpaa
open Go.RowKit

theorem md_first (s : Int) (c : Bool) (x : ByteArray) (hs : List (Int × Int)) : ((gd ⟨s, c, hs, x⟩).hs.getD 0 (0, 0)).1 ≠ -1 := by
  have hok := gd_ok ⟨s, c, hs, x⟩
  obtain ⟨_, ⟨h1, _⟩, _, h4⟩ := (ok_iff _).1 hok
  have hm := h4 ((gd ⟨s, c, hs, x⟩).hs.getD 0 (0, 0)) (by
    rw [List.getD_eq_getElem?_getD, List.getElem?_eq_getElem (show 0 < (gd ⟨s, c, hs, x⟩).hs.length by omega)]
    exact List.getElem_mem _)
  have := ((headOk_iff _).1 hm).1
  omega
/-- A number held to 1 to 4. -/
theorem port_in (p : Int) : ∃ q : Int, IntKind.i64.wrap ((IntKind.u64.wrap p).tmod 4) = q ∧ 0 ≤ q ∧ q < 4 ∧ IntKind.i64.wrap (1 + q) = 1 + q := by
  have h := md_in p (m := 4) (by decide) (by decide)
  exact ⟨_, rfl, h.1, h.2, IntWalk.i64_in _ (by unfold md at h; omega)⟩
theorem find_one (r : Nat) (L : List Nat) (p l : Int) (c : Bool) (node P : Int) : findK ⟨r, L, 1, p, l, c⟩ node P = (⟨r, L, 1, p, l, c⟩, false) := by
  unfold findK
  split
  · rfl
  · rw [if_neg (fun h => by have := h.1; simp at this)]
set_option maxRecDepth 100000 in
set_option maxHeartbeats 8000000 in
theorem pass_law (s : Int) (c : Bool) (a : Option Addr) (cap : Nat) (x : ByteArray) (hs : List (Int × Int)) (port ln : Int) (w : World) (hm : hs.length ≤ maxLen) (hx : x.size ≤ maxLen) (hr : Rd w a (pc hs)) :
    Calls Try.prog 4 #[pcv s c (.slice a hs.length cap) x, .int .i64 port, .int .i64 ln] w fun e w' => e = .returned (.bool true) ∧ Below w.heap.size w w' := by
  have WC : ∀ w', Rd w' a (pc hs) → _ := fun w' h => kwords_any s c a cap x hs w' hm hx h
  have hW := wds_fine (fine ⟨s, c, hs, x⟩)
  have hD := md_first s c x hs
  generalize gd ⟨s, c, hs, x⟩ = P at *
  obtain ⟨q, hq, q0, q4, hq2⟩ := port_in port
  obtain ⟨pt, hpt⟩ : ∃ pt, 1 + q = pt := ⟨_, rfl⟩
  rw [hpt] at hq2
  have hp : 1 ≤ pt ∧ pt ≤ 4 := by omega
  have hl := hW.len
  have hsm := hW.small
  have hlt := hW.lt
  have PF : Hid (findK ⟨64, P.ws, 0, 0, 0, false⟩ (-1) pt = (⟨64, P.ws, 1, pt, 0, false⟩, true)) := show _ = _ from by
    have := pass_find (r := 64) hW [] hD hp
    rwa [List.append_nil] at this
  have PG : Hid (giveK ⟨64, P.ws, 1, pt, 0, false⟩ ln = (passK 64 P.ws [] pt ln 0, true)) := show _ = _ from by
    have := pass_give (r := 64) (L := P.ws) [] (by omega) pt ln
    rwa [List.append_nil] at this
  have PT : Hid (∀ i, i < P.ws.length → takeK (passK 64 P.ws [] pt ln i) = (passK 64 P.ws [] pt ln (i + 1), ⟨pt, ln, P.ws.getD i 0, false, decide (i + 1 = P.ws.length)⟩, 0)) := show _ from fun i hi => pass_step hW [] (by omega) hi
  have PP : Hid (∀ i, i < P.ws.length → putK ⟨64, P.ws.take i, 0, 0, 0, false⟩ (P.ws.getD i 0) = (⟨64, P.ws.take (i + 1), 0, 0, 0, false⟩, 0)) := show _ from fun i hi => by
    have := put_take (r := 64) hi [] (by simp; omega)
    simpa using this
  have PE : Hid (passK 64 P.ws [] pt ln P.ws.length = ⟨64, [], 0, 0, 0, false⟩) := show _ = _ from by unfold passK; rw [if_neg (by omega)]
  have PL : Hid (∀ i, i < P.ws.length → P.ws.getD i 0 < 18446744073709551616) := show _ from fun i hi => hlt _ (by rw [List.getD_eq_getElem?_getD, List.getElem?_eq_getElem hi]; exact List.getElem_mem _)
  have PA : Hid (P.ws.take P.ws.length = P.ws) := show _ = _ from List.take_length
  clear hW hD hlt
  generalize P.ws = L at *
  obtain ⟨n, hn⟩ : ∃ n, hs.length = n := ⟨_, rfl⟩
  rw [hn] at WC ⊢
  have H0 : Hid (Bk (w.alloc (.cells #[.int .i64 s, .bool c, .slice a n cap, .string x] 24)) w.heap.size #[.int .i64 s, .bool c, .slice a n cap, .string x] 24) := Bk.new _ _ _
  have B0 : Hid (Below w.heap.size w (w.alloc (.cells #[.int .i64 s, .bool c, .slice a n cap, .string x] 24))) := (Below.refl _ _).alloc (Nat.le_refl _) _
  have LV := lives_any (w.alloc (.cells #[.int .i64 s, .bool c, .slice a n cap, .string x] 24))
  have HR : Hid (Rd w a (pc hs)) := hr
  have HW : Hid _ := WC
  have NC := fun V => lane_new 64 V
  rw [show newK 64 = ⟨64, L.take 0, 0, 0, 0, false⟩ from rfl] at NC
  clear hr hn hm hx WC
  simp only [pcv, pcc] at *
  go_enter Try.func4, Try.ntmps4
  go_wp2_with fail
  go_at_call 8
  with_reducible refine LV.mono ?_
  rintro e w1 ⟨rfl, hb1⟩
  have B1 : Hid (Below w.heap.size w w1) := B0.out.trans (hb1.mono B0.out.size)
  have H1 : Hid (Bk w1 w.heap.size #[.int .i64 s, .bool c, .slice a n cap, .string x] 24) := H0.out.next hb1
  have c0 := H1.out.cell 0
  have c1 := H1.out.cell 1
  have c2 := H1.out.cell 2
  have c3 := H1.out.cell 3
  simp at c0 c1 c2 c3
  have GW := HW.out w1 (HR.out.below B1.out)
  clear LV hb1 H0 B0
  go_wp2_with fail
  go_at_call 10
  with_reducible refine GW.mono ?_
  rintro e w2 ⟨la, lcap, rfl, hcap, rd2, hb2⟩
  have B2 : Hid (Below w.heap.size w w2) := B1.out.trans (hb2.mono B1.out.size)
  have HX : Hid (∀ i (wr : World), i < L.length → Below w2.heap.size w2 wr → ∃ g o, la = some ⟨g, o, none⟩ ∧ g < wr.heap.size ∧ wr.cell? ⟨g, o + i, none⟩ = some (.int .u64 ((L.getD i 0 : Nat) : Int))) := show _ from fun i wr hi hb => (rd2.below hb) i _ (vw_at hi)
  clear GW hb2 H1 B1 c0 c1 c2 c3 rd2 HW HR
  have hpt' : IntKind.i64.wrap (1 + q) = pt := by rw [hpt]; exact hq2
  go_wp2_with fail
  go_at_call 11
  with_reducible refine (NC _).mono ?_
  rintro e w3 ⟨b, F0, rfl, n0, f0, hb3⟩
  have L3 : Hid (KSt w2 w3 b ⟨64, L.take 0, 0, 0, 0, false⟩ F0) := show KSt w2 w3 b _ F0 from ⟨n0, f0, hb3⟩
  clear NC n0 f0 hb3
  obtain ⟨m, hm⟩ : ∃ m, L.length = m := ⟨_, rfl⟩
  have HM : Hid (L.length = m) := hm
  rw [hm] at hl hsm PT PP PE PL PA HX hcap ⊢
  clear hm
  go_wp2_with fail
  go_loopw [9] (fun x wr => ∃ (i : Nat) (F : Nat → Prop), i ≤ m ∧ x = .int .i64 i ∧ KSt w2 wr b ⟨64, L.take i, 0, 0, 0, false⟩ F) (fun x _ => m - (RowKit.intOf x).toNat)
  case atStart => exact ⟨0, F0, Nat.zero_le _, rfl, L3.out⟩
  case round =>
    obtain ⟨i, F, hi, rfl, l⟩ := hrel
    clear L3
    have LI : Hid (KSt w2 wr b ⟨64, L.take i, 0, 0, 0, false⟩ F) := l
    clear l
    by_cases hex : i < m
    case neg =>
      obtain rfl : i = m := by omega
      have LL : KSt w2 wr b ⟨64, L, 0, 0, 0, false⟩ F := by
        have := LI.out
        rwa [PA.out] at this
      have C1 := lane_give LL.lk ln
      rw [show giveK ⟨64, L, 0, 0, 0, false⟩ ln = (⟨64, L, 0, 0, 0, false⟩, false) from rfl] at C1
      have H1 : Hid (KSt w2 wr b ⟨64, L, 0, 0, 0, false⟩ F) := LL
      clear LL LI
      have e1 : ¬ (i : Int) < (i : Int) := by omega
      go_wp2_with fail
      go_at_call 18
      with_reducible refine C1.mono ?_
      rintro e u1 ⟨F1, rfl, n1, g1⟩
      have H2 : Hid (KSt w2 u1 b ⟨64, L, 0, 0, 0, false⟩ F1) := H1.out.step n1 g1
      clear C1 H1 n1 g1
      go_wp2_with fail
      go_at_call 14
      with_reducible refine (by_any pt _).mono ?_
      rintro e u2 ⟨bb, rfl, wy, hb⟩
      have C2 := lane_find (H2.out.next hb).lk (-1) pt _ _ wy
      rw [PF.out] at C2
      have H3 : Hid (KSt w2 u2 b ⟨64, L, 0, 0, 0, false⟩ F1) := H2.out.next hb
      clear H2 wy hb
      go_wp2_with fail
      go_at_call 13
      with_reducible refine C2.mono ?_
      rintro e u3 ⟨F3, rfl, n3, g3⟩
      have H4 : Hid (KSt w2 u3 b ⟨64, L, 1, pt, 0, false⟩ F3) := H3.out.step n3 g3
      have C3 := lane_phase H4.out.lk
      clear C2 H3 n3 g3
      go_wp2_with fail
      go_at_call 15
      with_reducible refine C3.mono ?_
      rintro e u4 ⟨rfl, hb4⟩
      have H5 : Hid (KSt w2 u4 b ⟨64, L, 1, pt, 0, false⟩ F3) := H4.out.next hb4
      clear C3 H4 hb4
      go_wp2_with fail
      go_at_call 14
      with_reducible refine (by_any pt _).mono ?_
      rintro e u5 ⟨bb2, rfl, wy, hb⟩
      have C4 := lane_find (H5.out.next hb).lk (-1) pt _ _ wy
      rw [find_one] at C4
      have H6 : Hid (KSt w2 u5 b ⟨64, L, 1, pt, 0, false⟩ F3) := H5.out.next hb
      clear H5 wy hb
      go_wp2_with fail
      go_at_call 13
      with_reducible refine C4.mono ?_
      rintro e u6 ⟨F6, rfl, n6, g6⟩
      have H7 : Hid (KSt w2 u6 b ⟨64, L, 1, pt, 0, false⟩ F6) := H6.out.step n6 g6
      have C5 := lane_give H7.out.lk ln
      rw [PG.out] at C5
      clear C4 H6 n6 g6
      go_wp2_with fail
      go_at_call 18
      with_reducible refine C5.mono ?_
      rintro e u7 ⟨F7, rfl, n7, g7⟩
      have H8 : Hid (KSt w2 u7 b (passK 64 L [] pt ln 0) F7) := H7.out.step n7 g7
      clear C5 H7 n7 g7
      go_wp2_with fail
      go_loopw [10] (fun x wr => ∃ (j : Nat) (F : Nat → Prop), j ≤ i ∧ x = .int .i64 j ∧ KSt w2 wr b (passK 64 L [] pt ln j) F) (fun x _ => i - (RowKit.intOf x).toNat)
      case atStart => exact ⟨0, F7, Nat.zero_le _, rfl, H8.out⟩
      case round =>
        obtain ⟨j, G, hj, rfl, l⟩ := hrel
        clear H8
        have LJ : Hid (KSt w2 wr b (passK 64 L [] pt ln j) G) := l
        clear l
        by_cases hex2 : j < i
        case neg =>
          obtain rfl : j = i := by omega
          have l := LJ.out
          rw [PE.out] at l
          have C1 := lane_take l.lk
          rw [show takeK ⟨64, [], 0, 0, 0, false⟩ = (⟨64, [], 0, 0, 0, false⟩, zko, 13) from rfl] at C1
          simp only [kov, koc, zko] at C1
          have H1 : Hid (KSt w2 wr b ⟨64, [], 0, 0, 0, false⟩ G) := l
          clear l LJ
          have e2 : ¬ (j : Int) < (j : Int) := by omega
          go_upto_region 19 with (go_at_call 19; with_reducible refine C1.mono ?_; rintro e v1 ⟨G1, rfl, n1, g1⟩)
          have H2 : Hid (KSt w2 (v1.alloc (.cells #[.int .i64 0, .int .i64 0, .int .u64 0, .bool false, .bool false] 43)) b ⟨64, [], 0, 0, 0, false⟩ G1) := (H1.out.step n1 g1).alloc _
          clear C1 H1 n1 g1
          generalize v1.alloc (.cells #[.int .i64 0, .int .i64 0, .int .u64 0, .bool false, .bool false] 43) = v2 at *
          have C2 := lane_phase H2.out.lk
          simp only at C2
          go_wp2_with fail
          go_at_call 15
          with_reducible refine C2.mono ?_
          rintro e v3 ⟨rfl, hb3⟩
          have H3 : Hid (KSt w2 v3 b ⟨64, [], 0, 0, 0, false⟩ G1) := H2.out.next hb3
          clear C2 H2 hb3
          have C3 := lane_len H3.out.lk
          simp only [List.length_nil] at C3
          go_wp2_with fail
          go_at_call 21
          with_reducible refine C3.mono ?_
          rintro e v4 ⟨rfl, hb4⟩
          have H4 : Hid (Below w.heap.size w v4) := B2.out.trans ((H3.out.next hb4).below.mono B2.out.size)
          clear C3 H3 hb4
          go_wp2
          go_ret
          exact ⟨rfl, H4.out⟩
        obtain ⟨g, o, rfl, hg, k0⟩ := HX.out j wr hex2 LJ.out.below
        have e2 : (j : Int) < (i : Int) := by omega
        have e0 : (0 : Int) ≤ (j : Int) := by omega
        have e3 : IntKind.i64.wrap ((j : Int) + 1) = ((j + 1 : Nat) : Int) := by rw [IntWalk.i64_in _ (by omega)]; omega
        have C1 := lane_take LJ.out.lk
        rw [PT.out j hex2] at C1
        simp only [kov, koc] at C1
        have hcell : Hid (∀ v, Below w2.heap.size w2 v → v.cell? ⟨g, o + j, none⟩ = some (.int .u64 ((L.getD j 0 : Nat) : Int))) := show _ from fun v hb => by
          obtain ⟨g', o', e', _, k'⟩ := HX.out j v hex2 hb
          simp only [Option.some.injEq, Addr.mk.injEq, and_true] at e'
          obtain ⟨rfl, rfl⟩ := e'
          exact k'
        obtain ⟨y, hy⟩ : ∃ y : Int, ((L.getD j 0 : Nat) : Int) = y := ⟨_, rfl⟩
        obtain ⟨tlb, htl⟩ : ∃ t, decide (j + 1 = i) = t := ⟨_, rfl⟩
        have etl : (((j + 1 : Nat) : Int) == (i : Int)) = tlb := by
          rw [← htl]
          by_cases h : j + 1 = i
          · subst h; simp
          · rw [decide_eq_false h]
            simp only [beq_eq_false_iff_ne, ne_eq]
            omega
        rw [hy] at hcell k0 C1
        rw [htl] at C1
        obtain ⟨j1, hj1⟩ : ∃ j1 : Nat, j + 1 = j1 := ⟨_, rfl⟩
        have HJ1 : Hid (j + 1 = j1) := hj1
        rw [hj1] at e3 etl C1
        have HJ : Hid (∀ v F', Kn v b (passK 64 L [] pt ln j1) F' → Gr G wr v F' → KSt w2 v b (passK 64 L [] pt ln j1) F') := show _ from fun v F' n g => LJ.out.step n g
        clear hy htl LJ hj1
        go_upto_region 16 with (go_at_call 19; with_reducible refine C1.mono ?_; rintro e v1 ⟨G1, rfl, n1, g1⟩)
        have J1 : Hid (KSt w2 (v1.alloc (.cells #[.int .i64 pt, .int .i64 ln, .int .u64 y, .bool false, .bool tlb] 43)) b (passK 64 L [] pt ln j1) G1) := (HJ.out _ _ n1 g1).alloc _
        have A1 : Bk (v1.alloc (.cells #[.int .i64 pt, .int .i64 ln, .int .u64 y, .bool false, .bool tlb] 43)) v1.heap.size #[.int .i64 pt, .int .i64 ln, .int .u64 y, .bool false, .bool tlb] 43 := Bk.new _ _ _
        have k1 := hcell.out _ J1.out.below
        clear C1 HJ n1 g1 k0
        generalize v1.alloc (.cells #[.int .i64 pt, .int .i64 ln, .int .u64 y, .bool false, .bool tlb] 43) = v2 at *
        generalize v1.heap.size = kb at *
        have c0 := A1.cell 0
        have c1 := A1.cell 1
        have c2 := A1.cell 2
        have c3 := A1.cell 3
        have c4 := A1.cell 4
        simp only [List.getElem?_toArray, List.getElem?_cons_zero, List.getElem?_cons_succ] at c0 c1 c2 c3 c4
        have NE := fun v => run_ne_out pt ln y false tlb v
        have NG := Try.outGuard
        go_wp2_with fail
        go_quiet (fail)
        have J2 : Hid (KSt w2 (v2.drewN nq) b (passK 64 L [] pt ln j1) G1) := J1.out.drewN nq
        clear c0 c1 c2 c3 c4 A1 k1 J1 NE NG
        go_wp2
        go_roundw
        case rel => exact ⟨j1, G1, by have := HJ1.out; omega, by go_num, J2.out⟩
        case measure => have := HJ1.out; simp [RowKit.intOf]; omega
    obtain ⟨g, o, rfl, hg, k0⟩ := HX.out i wr hex LI.out.below
    have e1 : (i : Int) < (m : Int) := by omega
    have e0 : (0 : Int) ≤ (i : Int) := by omega
    have e2 : IntKind.i64.wrap ((i : Int) + 1) = ((i + 1 : Nat) : Int) := by rw [IntWalk.i64_in _ (by omega)]; omega
    have PC := lane_put LI.out.lk (L.getD i 0) (PL.out i hex)
    rw [PP.out i hex] at PC
    simp only at PC
    have HS : Hid (∀ w' F', Kn w' b ⟨64, L.take (i + 1), 0, 0, 0, false⟩ F' → Gr F wr w' F' → KSt w2 w' b ⟨64, L.take (i + 1), 0, 0, 0, false⟩ F') := show _ from fun w' F' n g => LI.out.step n g
    obtain ⟨y, hy⟩ : ∃ y : Int, ((L.getD i 0 : Nat) : Int) = y := ⟨_, rfl⟩
    rw [hy] at k0 PC
    clear hy
    go_wp2_with fail
    go_at_call 12
    with_reducible refine PC.mono ?_
    rintro e w4 ⟨F', rfl, n4, g4⟩
    have L4 : Hid (KSt w2 w4 b ⟨64, L.take (i + 1), 0, 0, 0, false⟩ F') := HS.out _ _ n4 g4
    clear PC HS n4 g4 k0
    go_wp2
    go_roundw
    case rel => exact ⟨i + 1, F', by omega, by go_num, L4.out⟩
    case measure => simp [RowKit.intOf]; omega
end Go.Proofs.Ytkigeakaedkjpaa
