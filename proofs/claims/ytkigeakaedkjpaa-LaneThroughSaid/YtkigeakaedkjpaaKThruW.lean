/-
  The walk of LaneThrough. (Written by gen_kthru.py.)
-/
import Derived.Test.YtkigeakaedkjpaaKLives
import Derived.Test.YtkigeakaedkjpaaKPassW
import Derived.Test.YtkigeakaedkjpaaKRows
import Derived.Test.YtkigeakaedkjpaaSameW
namespace Go.Proofs.Ytkigeakaedkjpaa
open Go.RowKit

theorem one_cell (n : Nat) : ∀ u ∈ [Value.int .u64 (n : Int)], u.oneCell' = true := by
  intro u hu
  simp only [List.mem_singleton] at hu
  subst hu
  rfl
theorem out_kept {v w' : World} {kb B n : Nat} {V : Value} {l : List Value} {cs : Array Value} {o : Obj} (h : OwnK 36 1 v B V n l) (k : Bk v kb cs 43) (hg : (v.alloc o).grownBy w' V.ownBlock) : Bk w' kb cs 43 := (k.alloc o).kept hg (h.ne k (by decide))
set_option maxRecDepth 100000 in
set_option maxHeartbeats 16000000 in
theorem thru_law (s : Int) (c : Bool) (a : Option Addr) (cap : Nat) (x : ByteArray) (hs : List (Int × Int)) (port ln : Int) (w : World) (hm : hs.length ≤ maxLen) (hx : x.size ≤ maxLen) (hr : Rd w a (pc hs)) :
    Calls Try.prog 3 #[pcv s c (.slice a hs.length cap) x, .int .i64 port, .int .i64 ln] w fun e w' => e = .returned (.bool true) ∧ Below w.heap.size w w' := by
  have WC : ∀ w', Rd w' a (pc hs) → _ := fun w' h => kwords_any s c a cap x hs w' hm hx h
  have GC : ∀ w', Rd w' a (pc hs) → Calls Try.prog 9 #[pcv s c (.slice a hs.length cap) x] w' (PcR w' (gd ⟨s, c, hs, x⟩)) := fun w' h => good_any s c a cap x hs w' hm hx h
  have hW := wds_fine (fine ⟨s, c, hs, x⟩)
  generalize gd ⟨s, c, hs, x⟩ = P at *
  obtain ⟨q, hq, q0, q4, hq2⟩ := port_in port
  obtain ⟨pt, hpt⟩ : ∃ pt, 1 + q = pt := ⟨_, rfl⟩
  have hpt' : IntKind.i64.wrap (1 + q) = pt := by rw [hq2]; exact hpt
  have hp : 1 ≤ pt ∧ pt ≤ 4 := by omega
  have hpz : ¬ pt = 0 := by omega
  have hl := hW.len
  have hsm := hW.small
  have hn1 := hW.n1
  obtain ⟨Ps, Pc', Ph, Px⟩ := P
  simp only at hW hl hn1 WC GC
  obtain ⟨D, hD⟩ : ∃ D : Nat → Int, (fun i => (Ph.getD i (0, 0)).1) = D := ⟨_, rfl⟩
  have HD : Hid (∀ i, D i = (Ph.getD i (0, 0)).1) := show _ from fun i => by rw [← hD]
  rw [hD] at hW
  clear hD
  generalize Pc.ws ⟨Ps, Pc', Ph, Px⟩ = L at *
  obtain ⟨n, hn⟩ : ∃ n, Ph.length = n := ⟨_, rfl⟩
  have HNP : Hid (Ph.length = n) := hn
  rw [hn] at hW hl hn1
  obtain ⟨m, hm'⟩ : ∃ m, L.length = m := ⟨_, rfl⟩
  have HM : Hid (L.length = m) := hm'
  have PT : Hid (∀ i, i < m → takeK (preK 64 L n pt ln i) = (thruK 64 L n pt ln (i + 1), thruO L n pt ln i, 0)) := show _ from fun i hi => thru_step hW hpz (by omega)
  have PP : Hid (∀ i, i < m → putK ⟨64, L.take i, 0, 0, 0, false⟩ (L.getD i 0) = (⟨64, L.take (i + 1), 0, 0, 0, false⟩, 0)) := show _ from fun i hi => by
    have := put_take (r := 64) (show i < L.length by omega) [] (by simp; omega)
    simpa using this
  have PE : Hid (thruK 64 L n pt ln m = ⟨64, [], 0, 0, 0, false⟩) := show _ = _ from by unfold thruK; rw [if_neg (by omega)]
  have PL : Hid (∀ i, i < m → L.getD i 0 < 18446744073709551616) := show _ from fun i hi => hW.lt _ (by rw [List.getD_eq_getElem?_getD, List.getElem?_eq_getElem (show i < L.length by omega)]; exact List.getElem_mem _)
  have PA : Hid (L.take m = L) := show _ = _ from by rw [← hm', List.take_length]
  have F0' : Hid (findK ⟨64, L, 0, 0, 0, false⟩ (D 0) pt = (thruK 64 L n pt ln 0, true)) := show _ = _ from thru_find0 hW pt pt ln
  have F1' : Hid (1 < n → D 1 ≠ D 0 → findK (thruK 64 L n pt ln 1) (D 0) pt = (⟨64, L.drop 1, 1, pt, 0, true⟩, true)) := show _ from fun h1 h2 => thru_find1 hW h1 h2 hp
  have T0 : Hid (thruK 64 L n pt ln 0 = ⟨64, L.drop 0, 2, 0, 0, false⟩) := show _ = _ from by unfold thruK; rw [if_pos (by omega), if_pos (Or.inl rfl)]
  have T1 : Hid (1 < n → thruK 64 L n pt ln 1 = ⟨64, L.drop 1, 0, 0, 0, true⟩) := show _ from fun h => by unfold thruK; rw [if_pos (by omega), if_neg (by omega), if_pos rfl]
  rw [hm'] at hl hsm WC
  clear hW hm' hn
  obtain ⟨nh, hnh⟩ : ∃ n, hs.length = n := ⟨_, rfl⟩
  rw [hnh] at WC GC ⊢
  have H0 : Hid (Bk (w.alloc (.cells #[.int .i64 s, .bool c, .slice a nh cap, .string x] 24)) w.heap.size #[.int .i64 s, .bool c, .slice a nh cap, .string x] 24) := Bk.new _ _ _
  have B0 : Hid (Below w.heap.size w (w.alloc (.cells #[.int .i64 s, .bool c, .slice a nh cap, .string x] 24))) := (Below.refl _ _).alloc (Nat.le_refl _) _
  have LV := lives_any (w.alloc (.cells #[.int .i64 s, .bool c, .slice a nh cap, .string x] 24))
  have HR : Hid (Rd w a (pc hs)) := hr
  have HWC : Hid _ := WC
  have HGC : Hid (∀ w', Rd w' a (pc hs) → Calls Try.prog 9 #[.agg #[.int .i64 s, .bool c, .slice a nh cap, .string x]] w' fun e w'' => ∃ a2 cap2, e = .returned (.agg #[.int .i64 Ps, .bool Pc', .slice a2 Ph.length cap2, .string Px]) ∧ Ph.length ≤ cap2 ∧ Rd w'' a2 (pc Ph) ∧ Below w'.heap.size w' w'') := GC
  have NC := fun V => lane_new 64 V
  rw [show newK 64 = ⟨64, L.take 0, 0, 0, 0, false⟩ from rfl] at NC
  obtain ⟨i0, ki, hz0, hz1, hz2⟩ := info_parts Try.info36
  clear hr hnh hm hx WC GC q0 q4 hq2 hpt
  simp only [pcv, pcc] at *
  go_enter Try.func3, Try.ntmps3
  go_wp2_with fail
  go_at_call 8
  with_reducible refine LV.mono ?_
  rintro e w1 ⟨rfl, hb1⟩
  have B1 : Hid (Below w.heap.size w w1) := B0.out.trans (hb1.mono B0.out.size)
  have H1 : Hid (Bk w1 w.heap.size #[.int .i64 s, .bool c, .slice a nh cap, .string x] 24) := H0.out.next hb1
  have c0 := H1.out.cell 0
  have c1 := H1.out.cell 1
  have c2 := H1.out.cell 2
  have c3 := H1.out.cell 3
  simp at c0 c1 c2 c3
  have GG := HGC.out w1 (HR.out.below B1.out)
  clear LV hb1 H0 B0
  go_upto_region 4 with (go_at_call 9; with_reducible refine GG.mono ?_; rintro e w2 ⟨ga, gcap, rfl, hgc, rdg, hb2⟩)
  have B2 : Hid (Below w.heap.size w (w2.alloc (.cells #[.int .i64 Ps, .bool Pc', .slice ga Ph.length gcap, .string Px] 24))) := (B1.out.trans (hb2.mono B1.out.size)).alloc (Nat.le_trans B1.out.size hb2.size) _
  have H2 : Hid (Bk (w2.alloc (.cells #[.int .i64 Ps, .bool Pc', .slice ga Ph.length gcap, .string Px] 24)) w.heap.size #[.int .i64 s, .bool c, .slice a nh cap, .string x] 24) := (H1.out.next hb2).alloc _
  have G2 : Hid (Bk (w2.alloc (.cells #[.int .i64 Ps, .bool Pc', .slice ga Ph.length gcap, .string Px] 24)) w2.heap.size #[.int .i64 Ps, .bool Pc', .slice ga Ph.length gcap, .string Px] 24) := Bk.new _ _ _
  have R2 : Hid (Rd (w2.alloc (.cells #[.int .i64 Ps, .bool Pc', .slice ga Ph.length gcap, .string Px] 24)) ga (pc Ph)) := rdg.below ((Below.refl _ _).alloc (Nat.le_refl _) _)
  clear GG hb2 H1 B1 c0 c1 c2 c3 rdg HGC
  generalize w2.alloc (.cells #[.int .i64 Ps, .bool Pc', .slice ga Ph.length gcap, .string Px] 24) = v2 at *
  generalize w2.heap.size = gb at *
  have c0 := H2.out.cell 0
  have c1 := H2.out.cell 1
  have c2 := H2.out.cell 2
  have c3 := H2.out.cell 3
  simp at c0 c1 c2 c3
  have WW := HWC.out v2 (HR.out.below B2.out)
  go_wp2_with fail
  go_at_call 10
  with_reducible refine WW.mono ?_
  rintro e w3 ⟨la, lcap, rfl, hlc, rdl, hb3⟩
  have B3 : Hid (Below w.heap.size w w3) := B2.out.trans (hb3.mono B2.out.size)
  have G3 := G2.out.next hb3
  have R3 : Hid (Rd w3 ga (pc Ph)) := R2.out.below hb3
  have HX : Hid (∀ i (wr : World), i < m → Below w3.heap.size w3 wr → ∃ g o, la = some ⟨g, o, none⟩ ∧ g < wr.heap.size ∧ wr.cell? ⟨g, o + i, none⟩ = some (.int .u64 ((L.getD i 0 : Nat) : Int))) := show _ from fun i wr hi hb => (rdl.below hb) i _ (vw_at (by rw [HM.out]; exact hi))
  have HRL : Hid (Rd w3 la (vw L)) := rdl
  have g2 := G3.cell 2
  simp at g2
  rw [HNP.out] at g2 hgc
  clear WW hb3 H2 B2 G2 R2 c0 c1 c2 c3 rdl HWC HR G3
  obtain ⟨hg1, ho1, rfl, hgl, d0, -⟩ := R3.out.pair (k := 0) (by rw [HNP.out]; exact hn1)
  rw [← HD.out 0] at d0
  simp only [Nat.zero_mul, Nat.add_zero] at d0
  have z0 : (0 : Int) < (n : Int) := by omega
  have HND : Hid ((n = 1) ∨ (1 < n ∧ D 1 = D 0) ∨ (1 < n ∧ D 1 ≠ D 0)) := show _ from by
    rcases (show n = 1 ∨ 1 < n by omega) with h | h
    · exact Or.inl h
    · by_cases hd : D 1 = D 0
      · exact Or.inr (Or.inl ⟨h, hd⟩)
      · exact Or.inr (Or.inr ⟨h, hd⟩)
  have D1c : Hid (1 < n → w3.cell? ⟨hg1, ho1 + 2, none⟩ = some (.int .i64 (D 1))) := show _ from fun h => by
    obtain ⟨g', o', e', -, k, -⟩ := R3.out.pair (k := 1) (by rw [HNP.out]; exact h)
    simp only [Option.some.injEq, Addr.mk.injEq, and_true] at e'
    obtain ⟨rfl, rfl⟩ := e'
    rw [← HD.out 1] at k
    exact k
  clear R3 HNP hgl
  obtain ⟨N0, hN0⟩ : ∃ N0, D 0 = N0 := ⟨_, rfl⟩
  rw [hN0] at d0 F0'
  go_upto_region 8 with fail
  go_cut [48] from 38 to 48 (fun v wc => v = .bool (decide (1 < n ∧ D 1 = N0)) ∧ w3 = wc)
  case first =>
    rcases HND.out with h1 | ⟨h1, hd⟩ | ⟨h1, hd⟩
    · have f1 : ¬ (1 : Int) < (n : Int) := by omega
      have H1 : Hid (n = 1) := h1
      clear h1
      go_wp2
      go_meet
      exact ⟨by rw [decide_eq_false (by have := H1.out; omega)], rfl⟩
    · have f1 : (1 : Int) < (n : Int) := by omega
      have f2 := D1c.out h1
      rw [hN0] at hd
      rw [hd] at f2
      go_wp2
      go_meet
      exact ⟨by rw [decide_eq_true ⟨h1, hd⟩], rfl⟩
    · have f1 : (1 : Int) < (n : Int) := by omega
      have f2 := D1c.out h1
      rw [hN0] at hd
      have f3 : (D 1 == N0) = false := beq_false_of_ne hd
      go_wp2
      go_meet
      exact ⟨by rw [decide_eq_false (fun c => hd c.2)], rfl⟩
  case rest =>
  obtain ⟨rfl, rfl⟩ := hcut
  by_cases hG : 1 < n ∧ D 1 = N0
  · rw [decide_eq_true hG]
    go_wp2
    go_ret
    exact ⟨rfl, B3.out⟩
  rw [decide_eq_false hG]
  have HC : Hid (1 < n → D 1 ≠ N0) := show _ from fun h hd => hG ⟨h, hd⟩
  have F1H : Hid (1 < n → findK (thruK 64 L n pt ln 1) N0 pt = (⟨64, L.drop 1, 1, pt, 0, true⟩, true)) := show _ from fun h => by
    have := F1'.out h (by rw [hN0]; exact HC.out h)
    rwa [hN0] at this
  clear hG HND D1c d0 HD F1' hN0 g2
  go_wp2_with fail
  go_at_call 11
  with_reducible refine (NC _).mono ?_
  rintro e w4 ⟨b, F0, rfl, m0, f0, hb4⟩
  have L3 : Hid (KSt w3 w4 b ⟨64, L.take 0, 0, 0, 0, false⟩ F0) := show KSt w3 w4 b _ F0 from ⟨m0, f0, hb4⟩
  clear NC m0 f0 hb4
  go_wp2_with fail
  go_loopw [12] (fun x wr => ∃ (i : Nat) (F : Nat → Prop), i ≤ m ∧ x = .int .i64 i ∧ KSt w3 wr b ⟨64, L.take i, 0, 0, 0, false⟩ F) (fun x _ => m - (RowKit.intOf x).toNat)
  case atStart => exact ⟨0, F0, Nat.zero_le _, rfl, L3.out⟩
  case round =>
    obtain ⟨i, F, hi, rfl, l⟩ := hrel
    clear L3
    have LI : Hid (KSt w3 wr b ⟨64, L.take i, 0, 0, 0, false⟩ F) := l
    clear l
    by_cases hex : i < m
    case pos =>
      obtain ⟨g, o, e9, hg, k0⟩ := HX.out i wr hex LI.out.below
      subst e9
      have e1 : (i : Int) < (m : Int) := by omega
      have e0 : (0 : Int) ≤ (i : Int) := by omega
      have e2 : IntKind.i64.wrap ((i : Int) + 1) = ((i + 1 : Nat) : Int) := by rw [IntWalk.i64_in _ (by omega)]; omega
      have PC := lane_put LI.out.lk (L.getD i 0) (PL.out i hex)
      rw [PP.out i hex] at PC
      simp only at PC
      have HS : Hid (∀ w' F', Kn w' b ⟨64, L.take (i + 1), 0, 0, 0, false⟩ F' → Gr F wr w' F' → KSt w3 w' b ⟨64, L.take (i + 1), 0, 0, 0, false⟩ F') := show _ from fun w' F' n g => LI.out.step n g
      obtain ⟨y, hy⟩ : ∃ y : Int, ((L.getD i 0 : Nat) : Int) = y := ⟨_, rfl⟩
      rw [hy] at k0 PC
      clear hy
      go_wp2_with fail
      go_at_call 12
      with_reducible refine PC.mono ?_
      rintro e w5 ⟨F', rfl, n4, g4⟩
      have L4 : Hid (KSt w3 w5 b ⟨64, L.take (i + 1), 0, 0, 0, false⟩ F') := HS.out _ _ n4 g4
      clear PC HS n4 g4 k0
      go_wp2
      go_roundw
      case rel => exact ⟨i + 1, F', by omega, by go_num, L4.out⟩
      case measure => simp [RowKit.intOf]; omega
    obtain rfl : m = i := by omega
    clear hi hex
    have e1 : ¬ (m : Int) < (m : Int) := by omega
    have LL : Hid (KSt w3 wr b ⟨64, L, 0, 0, 0, false⟩ F) := show KSt _ _ _ _ _ from by
      have := LI.out
      rwa [PA.out] at this
    clear LI PA PP PL
    go_wp2_with fail
    go_at_call 14
    with_reducible refine (by_any pt _).mono ?_
    rintro e u1 ⟨bb, rfl, wy, hb⟩
    have C1 := lane_find (LL.out.next hb).lk N0 pt _ _ wy
    rw [F0'.out] at C1
    have L1 : Hid (KSt w3 u1 b ⟨64, L, 0, 0, 0, false⟩ F) := LL.out.next hb
    clear LL wy hb F0'
    go_wp2_with fail
    go_at_call 13
    with_reducible refine C1.mono ?_
    rintro e u2 ⟨F2, rfl, n2, g2⟩
    have L2 : Hid (KSt w3 u2 b (thruK 64 L n pt ln 0) F2) := L1.out.step n2 g2
    have C2 := lane_phase L2.out.lk
    rw [T0.out] at C2
    simp only at C2
    clear C1 L1 n2 g2
    go_wp2_with fail
    go_at_call 15
    with_reducible refine C2.mono ?_
    rintro e u3 ⟨rfl, hb⟩
    have L3 : Hid (KSt w3 u3 b (thruK 64 L n pt ln 0) F2) := L2.out.next hb
    have C3 := lane_port L3.out.lk
    rw [T0.out] at C3
    simp only at C3
    clear C2 L2 hb
    go_wp2_with fail
    go_at_call 16
    with_reducible refine C3.mono ?_
    rintro e u4 ⟨rfl, hb⟩
    have L4 : Hid (KSt w3 u4 b (thruK 64 L n pt ln 0) F2) := L3.out.next hb
    clear C3 L3 hb T0
    go_wp2_with fail
    go_loopw [13, 14, 15] (fun sv nv x wr => ∃ (i : Nat) (F : Nat → Prop) (VH VO : Value), i ≤ m ∧ x = .int .i64 i ∧ VH = sv ∧ VO = nv ∧ KSt w3 wr b (thruK 64 L n pt ln i) F ∧ KRows w3 wr F VH VO (hereL L n i) (onL L n i)) (fun _ _ x _ => m - (RowKit.intOf x).toNat)
    case atStart => exact ⟨0, F2, _, _, Nat.zero_le _, rfl, rfl, rfl, L4.out, by rw [here_zero, on_zero]; exact KRows.nil _ _ _⟩
    case round =>
      obtain ⟨i, F, VH, VO, hi, rfl, hVH, hVO, l, rw0⟩ := hrel
      subst hVH
      subst hVO
      clear L4
      have LI : Hid (KSt w3 wr b (thruK 64 L n pt ln i) F) := l
      have RI : Hid (KRows w3 wr F VH VO (hereL L n i) (onL L n i)) := rw0
      clear l rw0
      by_cases hex : i < m
      case neg =>
        obtain rfl : m = i := by omega
        clear hi hex F1H T1 PT
        have e2 : ¬ (m : Int) < (m : Int) := by omega
        have L5 : Hid (KSt w3 wr b ⟨64, [], 0, 0, 0, false⟩ F) := show KSt _ _ _ _ _ from by
          have := LI.out
          rwa [PE.out] at this
        have hall : hereL L n m = L.getD 0 0 :: L.drop n := by rw [← HM.out]; exact here_all (by rw [HM.out]; omega)
        have hon : onL L n m = if n = 1 then [] else L.drop 1 := by rw [← HM.out]; exact on_all L n
        have HALL : Hid (hereL L n m = L.getD 0 0 :: L.drop n) := hall
        obtain ⟨ah, caph, eh, hh1, hh2, rdh⟩ := RI.out.h.1.rd (by decide)
        obtain ⟨ao, capo, eo, ho1', ho2, rdo⟩ := RI.out.o.1.rd (by decide)
        subst eh
        subst eo
        rw [hall] at rdh
        rw [hall]
        rw [hon] at rdo
        rw [hon]
        obtain ⟨lo, hlo⟩ : ∃ lo, (if n = 1 then [] else L.drop 1).length = lo := ⟨_, rfl⟩
        have HLO2 : Hid ((if n = 1 then [] else L.drop 1).length = lo) := hlo
        rw [hlo]
        clear hlo
        have hdl : (L.drop n).length = m - n := by rw [List.length_drop, HM.out]
        obtain ⟨g, o, e9, hg, k0⟩ := HX.out 0 wr (by omega) L5.out.below
        subst e9
        rw [Nat.add_zero] at k0
        have HRD : Hid (∀ v, Below w3.heap.size w3 v → Rd v (some ⟨g, o, none⟩) (vw L)) := show _ from fun v hb => HRL.out.below hb
        obtain ⟨x0, hx0⟩ : ∃ x : Nat, L.getD 0 0 = x := ⟨_, rfl⟩
        rw [hx0] at k0 rdh HALL ⊢
        clear hall hon LI RI PE hx0
        obtain ⟨LW, hLW⟩ : ∃ LW, x0 :: L.drop n = LW := ⟨_, rfl⟩
        have HLW : Hid (x0 :: L.drop n = LW) := hLW
        rw [hLW] at rdh HALL ⊢
        have hlw : LW.length = 1 + (m - n) := by rw [← hLW, List.length_cons, hdl]; omega
        have HLWL : Hid (LW.length ≤ 1000000) := show _ ≤ _ from by omega
        have HDL : Hid ((L.drop n).length = m - n ∧ (L.drop 1).length = m - 1) := ⟨hdl, by rw [List.length_drop, HM.out]⟩
        obtain ⟨lw, hlw2⟩ : ∃ lw, LW.length = lw := ⟨_, rfl⟩
        have HLN : Hid (LW.length = lw) := hlw2
        rw [hlw2]
        clear hLW hdl hlw hlw2 hh1 hh2
        have f1 : (n : Int) ≤ (m : Int) := by omega
        have f2 : (m : Int) ≤ (lcap : Int) := by omega
        have f3 : ¬ lcap = n := by omega
        have f4 : ¬ lcap - n = 0 := by omega
        have f5 : (0 : Int) ≤ (n : Int) := by omega
        have f6 : (0 : Int) < (m : Int) := by omega
        have ownw := OwnK.nil wr wr.heap.size 36 1
        have HRN : Hid (∀ v, Below wr.heap.size wr v → Rd v (some ⟨g, o + n, none⟩) (vw (L.drop n))) := show _ from fun v hb => by
          rw [vw_drop]
          exact (HRD.out v (L5.out.below.trans (hb.mono L5.out.size))).rdrop n
        have HRH : Hid (Rd wr ah (vw LW)) := rdh
        have HRO : Hid (Rd wr ao (vw (if n = 1 then [] else L.drop 1))) := rdo
        have hdn : (vw (L.drop n)).length = m - n := by rw [vw_len]; exact HDL.out.1
        have hdm : [Value.int .u64 (x0 : Int)].length + (m - n) ≤ 1000000 := by simp only [List.length_cons, List.length_nil]; omega
        have hbs : wr.heap.size ≤ wr.heap.size := Nat.le_refl _
        have vo := vw_one (L.drop n)
        clear rdh rdo ho1' ho2 HRL HX
        go_upto_region 36 with (first
          | (at_builtin; (refine wpList_app_at rfl (.tmp 176) (.tmp 180) 27 36 i0 (.int .u64 0) 1 8 rfl Try.underlying27 ki hz0 hz1 hz2 rfl (by decide) (by decide) wr.heap.size wr (.slice none 0 0) 0 [] [.int .u64 (x0 : Int)] rfl ownw rfl rfl (one_cell x0) (Nat.zero_le _) hbs ?_; intro v1 w8 o8 g8 _; have b8 : Below wr.heap.size wr w8 := ((Below.refl _ _).alloc (Nat.le_refl _) _).grown g8 (by simp) (fun q hq => by simp [Value.ownBlock] at hq); have own8 : Own 36 w8 wr.heap.size v1 [.int .u64 (x0 : Int)] := o8; have r8 := HRN.out w8 b8; have hb8 : wr.heap.size ≤ w8.heap.size := b8.size))
          | (at_builtin; (refine wpList_app_row rfl (.tmp 182) (.tmp 185) 27 36 i0 (.int .u64 0) 8 rfl Try.underlying27 ki hz0 hz1 hz2 rfl (by decide) wr.heap.size w8 v1 [.int .u64 (x0 : Int)] rfl own8 g (o + n) (m - n) (lcap - n) rfl (vw (L.drop n)) hdn r8 vo hdm hb8 ?_; intro v2 w9 o9 g9; have b9 : Below wr.heap.size wr w9 := b8.grown g9 hb8 (fun q hq => (World.ownsRow.lt own8 q hq).1); have own9 : Own 36 w9 wr.heap.size v2 (vw (x0 :: L.drop n)) := o9)))
        rw [HLW.out] at own9
        obtain ⟨aw, capw, ew, -, -, rdw⟩ := own9.rd
        rw [vw_len, HLN.out] at ew
        subst ew
        have SC := samew_any LW LW ah aw caph capw w9 HLWL.out HLWL.out (HRH.out.below b9) rdw
        rw [decide_eq_true (rfl : LW = LW), HLN.out] at SC
        have L6 : Hid (KSt w3 w9 b ⟨64, [], 0, 0, 0, false⟩ F) := L5.out.next b9
        have B9 : Hid (Below wr.heap.size wr w9) := b9
        clear own8 own9 o8 o9 g8 g9 r8 hb8 b8 b9 rdw L5
        go_wp2_with fail
        go_at_call 20
        with_reducible refine SC.mono ?_
        rintro e v3 ⟨rfl, m3, rfl⟩
        have L7 : Hid (KSt w3 (w9.drewN m3) b ⟨64, [], 0, 0, 0, false⟩ F) := L6.out.drewN m3
        have B10 : Hid (Below wr.heap.size wr (w9.drewN m3)) := dn B9.out m3
        clear SC L6 B9
        generalize w9.drewN m3 = v4 at *
        have C1 := lane_phase L7.out.lk
        simp only at C1
        go_wp2_with fail
        go_at_call 15
        with_reducible refine C1.mono ?_
        rintro e v5 ⟨rfl, hb⟩
        have L8 : Hid (KSt w3 v5 b ⟨64, [], 0, 0, 0, false⟩ F) := L7.out.next hb
        have B11 : Hid (Below wr.heap.size wr v5) := B10.out.trans (hb.mono B10.out.size)
        have C2 := lane_copies L8.out.lk
        simp only at C2
        clear C1 L7 B10 hb
        go_wp2_with fail
        go_at_call 17
        with_reducible refine C2.mono ?_
        rintro e v6 ⟨rfl, hb⟩
        have L9 : Hid (KSt w3 v6 b ⟨64, [], 0, 0, 0, false⟩ F) := L8.out.next hb
        have B12 : Hid (Below wr.heap.size wr v6) := B11.out.trans (hb.mono B11.out.size)
        have C3 := lane_len L9.out.lk
        simp only [List.length_nil] at C3
        clear C2 L8 B11 hb
        go_wp2_with fail
        go_at_call 21
        with_reducible refine C3.mono ?_
        rintro e v7 ⟨rfl, hb⟩
        have L10 : Hid (KSt w3 v7 b ⟨64, [], 0, 0, 0, false⟩ F) := L9.out.next hb
        have B13 : Hid (Below wr.heap.size wr v7) := B12.out.trans (hb.mono B12.out.size)
        have BW : Hid (Below w.heap.size w v7) := B3.out.trans (L10.out.below.mono B3.out.size)
        clear C3 L9 B12 hb
        by_cases h1 : n = 1
        · obtain rfl : lo = 0 := by rw [← HLO2.out, if_pos h1]; rfl
          have HN1 : Hid (n = 1) := h1
          clear h1
          have f7 : (n : Int) = 1 := by have := HN1.out; omega
          go_wp2
          all_goals
            go_ret
            exact ⟨rfl, BW.out⟩
        · obtain rfl : lo = m - 1 := by rw [← HLO2.out, if_neg h1]; exact HDL.out.2
          have f7 : ¬ (n : Int) = 1 := by omega
          have f8 : (1 : Int) < (n : Int) := by omega
          have f9 : (1 : Int) ≤ (m : Int) := by omega
          have fa : ¬ lcap = 1 := by omega
          have fb : ¬ lcap - 1 = 0 := by omega
          have RO : Rd v7 ao (vw (L.drop 1)) := by
            have := HRO.out.below B13.out
            rwa [if_neg h1] at this
          have RW : Rd v7 (some ⟨g, o + 1, none⟩) (vw (L.drop 1)) := by
            rw [vw_drop]
            exact (HRD.out v7 L10.out.below).rdrop 1
          have SC := samew_any (L.drop 1) (L.drop 1) ao (some ⟨g, o + 1, none⟩) capo (lcap - 1) v7 (by rw [HDL.out.2]; omega) (by rw [HDL.out.2]; omega) RO RW
          rw [decide_eq_true (rfl : L.drop 1 = L.drop 1), HDL.out.2] at SC
          clear RO RW h1
          go_wp2_with fail
          go_at_call 20
          with_reducible refine SC.mono ?_
          rintro e v8 ⟨rfl, m8, rfl⟩
          have BX : Hid (Below w.heap.size w (v7.drewN m8)) := dn BW.out m8
          clear SC
          go_wp2
          go_ret
          exact ⟨rfl, BX.out⟩
      have e2 : (i : Int) < (m : Int) := by omega
      have e0 : (0 : Int) ≤ (i : Int) := by omega
      have e3 : IntKind.i64.wrap ((i : Int) + 1) = ((i + 1 : Nat) : Int) := by rw [IntWalk.i64_in _ (by omega)]; omega
      have HEX : Hid (i < m) := hex
      clear hi hex
      go_upto_region 22 with fail
      go_cut [119] from 79 to 175 (fun s wc => s = .bool false ∧ ∃ F', KSt w3 wc b (preK 64 L n pt ln i) F' ∧ KRows w3 wc F' VH VO (hereL L n i) (onL L n i))
      case first =>
        by_cases h1 : i = 1
        · by_cases hn : 1 < n
          · subst h1
            have f1 : (1 : Int) < (n : Int) := by omega
            have PK : preK 64 L n pt ln 1 = midK 64 L pt ln := by unfold preK; rw [if_pos ⟨rfl, hn⟩]
            have C1 := lane_phase LI.out.lk
            rw [T1.out hn] at C1
            simp only at C1
            have HPK : Hid (preK 64 L n pt ln 1 = midK 64 L pt ln) := PK
            have HN1 : Hid (1 < n) := hn
            clear PK hn
            go_wp2_with fail
            go_at_call 15
            with_reducible refine C1.mono ?_
            rintro e v1 ⟨rfl, hb⟩
            have A1 : Hid (KSt w3 v1 b (thruK 64 L n pt ln 1) F) := LI.out.next hb
            have Q1 : Hid (KRows w3 v1 F VH VO (hereL L n 1) (onL L n 1)) := RI.out.next hb
            have C2 := lane_copies A1.out.lk
            rw [T1.out HN1.out] at C2
            simp only at C2
            clear C1 LI RI hb
            go_wp2_with fail
            go_at_call 17
            with_reducible refine C2.mono ?_
            rintro e v2 ⟨rfl, hb⟩
            have A2 : Hid (KSt w3 v2 b (thruK 64 L n pt ln 1) F) := A1.out.next hb
            have Q2 : Hid (KRows w3 v2 F VH VO (hereL L n 1) (onL L n 1)) := Q1.out.next hb
            clear C2 A1 Q1 hb
            go_wp2_with fail
            go_at_call 14
            with_reducible refine (by_any pt _).mono ?_
            rintro e v3 ⟨bc, rfl, wy, hb⟩
            have C3 := lane_find (A2.out.next hb).lk N0 pt _ _ wy
            rw [F1H.out HN1.out] at C3
            have A3 : Hid (KSt w3 v3 b (thruK 64 L n pt ln 1) F) := A2.out.next hb
            have Q3 : Hid (KRows w3 v3 F VH VO (hereL L n 1) (onL L n 1)) := Q2.out.next hb
            clear A2 Q2 wy hb
            go_wp2_with fail
            go_at_call 13
            with_reducible refine C3.mono ?_
            rintro e v4 ⟨F4, rfl, n4, g4⟩
            have A4 : Hid (KSt w3 v4 b ⟨64, L.drop 1, 1, pt, 0, true⟩ F4) := A3.out.step n4 g4
            have Q4 : Hid (KRows w3 v4 F4 VH VO (hereL L n 1) (onL L n 1)) := Q3.out.gr g4
            have C4 := lane_phase A4.out.lk
            simp only at C4
            clear C3 A3 Q3 n4 g4
            go_wp2_with fail
            go_at_call 15
            with_reducible refine C4.mono ?_
            rintro e v5 ⟨rfl, hb⟩
            have A5 : Hid (KSt w3 v5 b ⟨64, L.drop 1, 1, pt, 0, true⟩ F4) := A4.out.next hb
            have Q5 : Hid (KRows w3 v5 F4 VH VO (hereL L n 1) (onL L n 1)) := Q4.out.next hb
            have C5 := lane_give A5.out.lk ln
            rw [give_mid] at C5
            clear C4 A4 Q4 hb
            go_wp2_with fail
            go_at_call 18
            with_reducible refine C5.mono ?_
            rintro e v6 ⟨F6, rfl, n6, g6⟩
            have A6 : Hid (KSt w3 v6 b (midK 64 L pt ln) F6) := A5.out.step n6 g6
            have Q6 : Hid (KRows w3 v6 F6 VH VO (hereL L n 1) (onL L n 1)) := Q5.out.gr g6
            clear C5 A5 Q5 n6 g6
            go_wp2
            go_meet
            exact ⟨rfl, F6, by rw [HPK.out]; exact A6.out, Q6.out⟩
          · have f1 : ¬ (1 : Int) < (n : Int) := by omega
            have PK : preK 64 L n pt ln i = thruK 64 L n pt ln i := by unfold preK; rw [if_neg (by omega)]
            rw [← PK] at LI
            subst h1
            clear PK
            go_wp2
            go_meet
            exact ⟨rfl, F, LI.out, RI.out⟩
        · have f1 : ¬ (i : Int) = 1 := by omega
          have PK : preK 64 L n pt ln i = thruK 64 L n pt ln i := by unfold preK; rw [if_neg (by omega)]
          rw [← PK] at LI
          clear PK
          go_wp2
          go_meet
          exact ⟨rfl, F, LI.out, RI.out⟩
      case rest =>
      obtain ⟨rfl, G, lk, rw1⟩ := hcut
      have LK : Hid (KSt w3 wc b (preK 64 L n pt ln i) G) := lk
      have RK : Hid (KRows w3 wc G VH VO (hereL L n i) (onL L n i)) := rw1
      clear lk rw1 LI RI
      obtain ⟨g, o, e9, hg, -⟩ := HX.out i wc HEX.out LK.out.below
      subst e9
      have HY : Hid (∀ v, Below w3.heap.size w3 v → v.cell? ⟨g, o + i, none⟩ = some (.int .u64 ((L.getD i 0 : Nat) : Int))) := show _ from fun v hb => by
        obtain ⟨g', o', e', _, k'⟩ := HX.out i v HEX.out hb
        simp only [Option.some.injEq, Addr.mk.injEq, and_true] at e'
        obtain ⟨rfl, rfl⟩ := e'
        exact k'
      have HLH : Hid ((hereL L n i).length ≤ 1000000) := show _ ≤ _ from by have := HM.out; have := here_le L n i; omega
      have HLO : Hid ((onL L n i).length ≤ 1000000) := show _ ≤ _ from by have := HM.out; have := on_le L n i; omega
      have hiL : i < L.length := by rw [HM.out]; exact HEX.out
      have hS0 : (i = 0 ∨ n ≤ i) → hereL L n (i + 1) = hereL L n i ++ [L.getD i 0] := fun h => here_snoc hiL h hn1
      have oS0 : ¬ (i = 0 ∨ n = 1) → onL L n (i + 1) = onL L n i ++ [L.getD i 0] := fun h => on_snoc hiL h
      obtain ⟨yn, hyn⟩ : ∃ yn : Nat, L.getD i 0 = yn := ⟨_, rfl⟩
      obtain ⟨tlb, htl⟩ : ∃ t, decide (i + 1 = L.length) = t := ⟨_, rfl⟩
      have etl : (((i + 1 : Nat) : Int) == (m : Int)) = tlb := by
        rw [← htl, HM.out]
        by_cases h : i + 1 = m
        · rw [h]; simp
        · rw [decide_eq_false h]
          simp only [beq_eq_false_iff_ne, ne_eq]
          omega
      obtain ⟨i1, hi1⟩ : ∃ i1 : Nat, i + 1 = i1 := ⟨_, rfl⟩
      rw [hi1] at e3 etl
      rw [hyn] at HY hS0 oS0
      have hbz : (pt == 0) = false := beq_false_of_ne hpz
      rcases (show (i = 0 ∨ n = 1) ∨ (¬ (i = 0 ∨ n = 1) ∧ i < n) ∨ (¬ (i = 0 ∨ n = 1) ∧ n ≤ i) by omega) with hw | ⟨hw, hin⟩ | ⟨hw, hin⟩
      · have hS : Hid (hereL L n (i + 1) = hereL L n i ++ [yn]) := hS0 (by omega)
        have oK : Hid (onL L n (i + 1) = onL L n i) := on_keep hw
        clear hS0 oS0
        have TO : thruO L n pt ln i = ⟨0, 0, L.getD i 0, false, decide (i + 1 = L.length)⟩ := by
          unfold thruO
          rw [if_pos hw]
        have C1 := lane_take LK.out.lk
        rw [PT.out i HEX.out, TO, hyn, htl] at C1
        simp only [kov, koc] at C1
        have HS : Hid (∀ w' F', Kn w' b (thruK 64 L n pt ln (i + 1)) F' → Gr G wc w' F' → KSt w3 w' b (thruK 64 L n pt ln (i + 1)) F' ∧ KRows w3 w' F' VH VO (hereL L n i) (onL L n i)) := show _ from fun w' F' n g => ⟨LK.out.step n g, RK.out.gr g⟩
        have HW : Hid _ := hw
        clear TO LK RK hw hyn htl
        try clear hin
        go_upto_region 25 with (go_at_call 19; with_reducible refine C1.mono ?_; rintro e v1 ⟨G1, rfl, n1', g1'⟩)
        obtain ⟨j0, r0⟩ := HS.out _ _ n1' g1'
        have J1 : Hid (KSt w3 (v1.alloc (.cells #[.int .i64 0, .int .i64 0, .int .u64 (yn : Int), .bool false, .bool tlb] 43)) b (thruK 64 L n pt ln (i + 1)) G1) := j0.alloc _
        have R1 : Hid (KRows w3 (v1.alloc (.cells #[.int .i64 0, .int .i64 0, .int .u64 (yn : Int), .bool false, .bool tlb] 43)) G1 VH VO (hereL L n i) (onL L n i)) := r0.next ((Below.refl _ _).alloc (Nat.le_refl _) _)
        have A1 : Hid (Bk (v1.alloc (.cells #[.int .i64 0, .int .i64 0, .int .u64 (yn : Int), .bool false, .bool tlb] 43)) v1.heap.size #[.int .i64 0, .int .i64 0, .int .u64 (yn : Int), .bool false, .bool tlb] 43) := Bk.new _ _ _
        have k1 := HY.out _ J1.out.below
        clear C1 HS n1' g1' j0 r0
        generalize v1.alloc (.cells #[.int .i64 0, .int .i64 0, .int .u64 (yn : Int), .bool false, .bool tlb] 43) = v2 at *
        generalize v1.heap.size = kb at *
        have c0 := A1.out.cell 0
        have c1 := A1.out.cell 1
        have c2 := A1.out.cell 2
        have c3 := A1.out.cell 3
        have c4 := A1.out.cell 4
        simp only [List.getElem?_toArray, List.getElem?_cons_zero, List.getElem?_cons_succ] at c0 c1 c2 c3 c4
        go_wp2_with fail
        go_quiet (fail)
        have J2 : Hid (KSt w3 (v2.drewN nq) b (thruK 64 L n pt ln (i + 1)) G1) := J1.out.drewN nq
        have R2 : Hid (KRows w3 (v2.drewN nq) G1 VH VO (hereL L n i) (onL L n i)) := R1.out.next (dn (Below.refl _ _) nq)
        have A2 : Hid (Bk (v2.drewN nq) kb #[.int .i64 0, .int .i64 0, .int .u64 (yn : Int), .bool false, .bool tlb] 43) := A1.out.next (dn (Below.refl _ _) nq)
        clear c0 c1 c2 c3 c4 J1 R1 A1 k1
        generalize v2.drewN nq = v3 at *
        have c0 := A2.out.cell 0
        have c1 := A2.out.cell 1
        have c2 := A2.out.cell 2
        have c3 := A2.out.cell 3
        simp only [List.getElem?_toArray, List.getElem?_cons_zero, List.getElem?_cons_succ] at c0 c1 c2 c3
        have ownh := R2.out.h.1
        have owno := R2.out.o.1
        have hbase := J2.out.size
        have hlh : (hereL L n i).length ≤ 1000000 := HLH.out
        have hlo : (onL L n i).length ≤ 1000000 := HLO.out
        go_wp2_with (at_builtin; (refine wpList_app_at rfl (.tmp 153) (.tmp 156) 27 36 i0 (.int .u64 0) 1 8 rfl Try.underlying27 ki hz0 hz1 hz2 rfl (by decide) (by decide) w3.heap.size v3 VH _ _ [.int .u64 (yn : Int)] rfl ownh rfl rfl (one_cell yn) hlh hbase ?_; intro V1 w8 o8 g8 e8; obtain ⟨r8, j8⟩ := R2.out.here J2.out o8 g8 e8; have A8 : Hid (Bk w8 kb #[.int .i64 0, .int .i64 0, .int .u64 (yn : Int), .bool false, .bool tlb] 43) := out_kept R2.out.h.1 A2.out g8; have R8 : Hid _ := r8; have J8 : Hid _ := j8; have c0 := A8.out.cell 0; have c1 := A8.out.cell 1; have c2 := A8.out.cell 2; have c3 := A8.out.cell 3; simp only [List.getElem?_toArray, List.getElem?_cons_zero, List.getElem?_cons_succ] at c0 c1 c2 c3; have ownh8 := R8.out.h.1; have owno8 := R8.out.o.1; have hbase8 := J8.out.size; clear r8 j8 o8 g8 e8))
        go_roundw
        case rel =>
          exact ⟨i + 1, G1, V1, VO, by have := HEX.out; omega, by go_num, rfl, rfl, J8.out, by have := R8.out; rw [hS.out, oK.out]; exact this⟩
        case measure => have := HEX.out; simp [RowKit.intOf]; omega
      · have hK : Hid (hereL L n (i + 1) = hereL L n i) := here_keep (by omega) hin
        have oS : Hid (onL L n (i + 1) = onL L n i ++ [yn]) := oS0 hw
        clear hS0 oS0
        have TO : thruO L n pt ln i = ⟨pt, ln, L.getD i 0, false, decide (i + 1 = L.length)⟩ := by
          unfold thruO
          rw [if_neg hw, decide_eq_false (by omega)]
        have C1 := lane_take LK.out.lk
        rw [PT.out i HEX.out, TO, hyn, htl] at C1
        simp only [kov, koc] at C1
        have HS : Hid (∀ w' F', Kn w' b (thruK 64 L n pt ln (i + 1)) F' → Gr G wc w' F' → KSt w3 w' b (thruK 64 L n pt ln (i + 1)) F' ∧ KRows w3 w' F' VH VO (hereL L n i) (onL L n i)) := show _ from fun w' F' n g => ⟨LK.out.step n g, RK.out.gr g⟩
        have HW : Hid _ := hw
        clear TO LK RK hw hyn htl
        try clear hin
        go_upto_region 25 with (go_at_call 19; with_reducible refine C1.mono ?_; rintro e v1 ⟨G1, rfl, n1', g1'⟩)
        obtain ⟨j0, r0⟩ := HS.out _ _ n1' g1'
        have J1 : Hid (KSt w3 (v1.alloc (.cells #[.int .i64 pt, .int .i64 ln, .int .u64 (yn : Int), .bool false, .bool tlb] 43)) b (thruK 64 L n pt ln (i + 1)) G1) := j0.alloc _
        have R1 : Hid (KRows w3 (v1.alloc (.cells #[.int .i64 pt, .int .i64 ln, .int .u64 (yn : Int), .bool false, .bool tlb] 43)) G1 VH VO (hereL L n i) (onL L n i)) := r0.next ((Below.refl _ _).alloc (Nat.le_refl _) _)
        have A1 : Hid (Bk (v1.alloc (.cells #[.int .i64 pt, .int .i64 ln, .int .u64 (yn : Int), .bool false, .bool tlb] 43)) v1.heap.size #[.int .i64 pt, .int .i64 ln, .int .u64 (yn : Int), .bool false, .bool tlb] 43) := Bk.new _ _ _
        have k1 := HY.out _ J1.out.below
        clear C1 HS n1' g1' j0 r0
        generalize v1.alloc (.cells #[.int .i64 pt, .int .i64 ln, .int .u64 (yn : Int), .bool false, .bool tlb] 43) = v2 at *
        generalize v1.heap.size = kb at *
        have c0 := A1.out.cell 0
        have c1 := A1.out.cell 1
        have c2 := A1.out.cell 2
        have c3 := A1.out.cell 3
        have c4 := A1.out.cell 4
        simp only [List.getElem?_toArray, List.getElem?_cons_zero, List.getElem?_cons_succ] at c0 c1 c2 c3 c4
        go_wp2_with fail
        go_quiet (fail)
        have J2 : Hid (KSt w3 (v2.drewN nq) b (thruK 64 L n pt ln (i + 1)) G1) := J1.out.drewN nq
        have R2 : Hid (KRows w3 (v2.drewN nq) G1 VH VO (hereL L n i) (onL L n i)) := R1.out.next (dn (Below.refl _ _) nq)
        have A2 : Hid (Bk (v2.drewN nq) kb #[.int .i64 pt, .int .i64 ln, .int .u64 (yn : Int), .bool false, .bool tlb] 43) := A1.out.next (dn (Below.refl _ _) nq)
        clear c0 c1 c2 c3 c4 J1 R1 A1 k1
        generalize v2.drewN nq = v3 at *
        have c0 := A2.out.cell 0
        have c1 := A2.out.cell 1
        have c2 := A2.out.cell 2
        have c3 := A2.out.cell 3
        simp only [List.getElem?_toArray, List.getElem?_cons_zero, List.getElem?_cons_succ] at c0 c1 c2 c3
        have ownh := R2.out.h.1
        have owno := R2.out.o.1
        have hbase := J2.out.size
        have hlh : (hereL L n i).length ≤ 1000000 := HLH.out
        have hlo : (onL L n i).length ≤ 1000000 := HLO.out
        go_wp2_with (at_builtin; (refine wpList_app_at rfl (.tmp 161) (.tmp 164) 27 36 i0 (.int .u64 0) 1 8 rfl Try.underlying27 ki hz0 hz1 hz2 rfl (by decide) (by decide) w3.heap.size v3 VO _ _ [.int .u64 (yn : Int)] rfl owno rfl rfl (one_cell yn) hlo hbase ?_; intro V2 w9 o9 g9 e9; obtain ⟨r9, j9⟩ := R2.out.on J2.out o9 g9 e9; have A9 : Hid (Bk w9 kb #[.int .i64 pt, .int .i64 ln, .int .u64 (yn : Int), .bool false, .bool tlb] 43) := out_kept R2.out.o.1 A2.out g9; have R9 : Hid _ := r9; have J9 : Hid _ := j9; have c0 := A9.out.cell 0; have c1 := A9.out.cell 1; have c2 := A9.out.cell 2; have c3 := A9.out.cell 3; simp only [List.getElem?_toArray, List.getElem?_cons_zero, List.getElem?_cons_succ] at c0 c1 c2 c3; have ownh9 := R9.out.h.1; have owno9 := R9.out.o.1; have hbase9 := J9.out.size; clear r9 j9 o9 g9 e9))
        go_roundw
        case rel =>
          exact ⟨i + 1, G1, VH, V2, by have := HEX.out; omega, by go_num, rfl, rfl, J9.out, by have := R9.out; rw [hK.out, oS.out]; exact this⟩
        case measure => have := HEX.out; simp [RowKit.intOf]; omega
      · have hS : Hid (hereL L n (i + 1) = hereL L n i ++ [yn]) := hS0 (Or.inr hin)
        have oS : Hid (onL L n (i + 1) = onL L n i ++ [yn]) := oS0 hw
        clear hS0 oS0
        have TO : thruO L n pt ln i = ⟨pt, ln, L.getD i 0, true, decide (i + 1 = L.length)⟩ := by
          unfold thruO
          rw [if_neg hw, decide_eq_true hin]
        have C1 := lane_take LK.out.lk
        rw [PT.out i HEX.out, TO, hyn, htl] at C1
        simp only [kov, koc] at C1
        have HS : Hid (∀ w' F', Kn w' b (thruK 64 L n pt ln (i + 1)) F' → Gr G wc w' F' → KSt w3 w' b (thruK 64 L n pt ln (i + 1)) F' ∧ KRows w3 w' F' VH VO (hereL L n i) (onL L n i)) := show _ from fun w' F' n g => ⟨LK.out.step n g, RK.out.gr g⟩
        have HW : Hid _ := hw
        clear TO LK RK hw hyn htl
        try clear hin
        go_upto_region 25 with (go_at_call 19; with_reducible refine C1.mono ?_; rintro e v1 ⟨G1, rfl, n1', g1'⟩)
        obtain ⟨j0, r0⟩ := HS.out _ _ n1' g1'
        have J1 : Hid (KSt w3 (v1.alloc (.cells #[.int .i64 pt, .int .i64 ln, .int .u64 (yn : Int), .bool true, .bool tlb] 43)) b (thruK 64 L n pt ln (i + 1)) G1) := j0.alloc _
        have R1 : Hid (KRows w3 (v1.alloc (.cells #[.int .i64 pt, .int .i64 ln, .int .u64 (yn : Int), .bool true, .bool tlb] 43)) G1 VH VO (hereL L n i) (onL L n i)) := r0.next ((Below.refl _ _).alloc (Nat.le_refl _) _)
        have A1 : Hid (Bk (v1.alloc (.cells #[.int .i64 pt, .int .i64 ln, .int .u64 (yn : Int), .bool true, .bool tlb] 43)) v1.heap.size #[.int .i64 pt, .int .i64 ln, .int .u64 (yn : Int), .bool true, .bool tlb] 43) := Bk.new _ _ _
        have k1 := HY.out _ J1.out.below
        clear C1 HS n1' g1' j0 r0
        generalize v1.alloc (.cells #[.int .i64 pt, .int .i64 ln, .int .u64 (yn : Int), .bool true, .bool tlb] 43) = v2 at *
        generalize v1.heap.size = kb at *
        have c0 := A1.out.cell 0
        have c1 := A1.out.cell 1
        have c2 := A1.out.cell 2
        have c3 := A1.out.cell 3
        have c4 := A1.out.cell 4
        simp only [List.getElem?_toArray, List.getElem?_cons_zero, List.getElem?_cons_succ] at c0 c1 c2 c3 c4
        go_wp2_with fail
        go_quiet (fail)
        have J2 : Hid (KSt w3 (v2.drewN nq) b (thruK 64 L n pt ln (i + 1)) G1) := J1.out.drewN nq
        have R2 : Hid (KRows w3 (v2.drewN nq) G1 VH VO (hereL L n i) (onL L n i)) := R1.out.next (dn (Below.refl _ _) nq)
        have A2 : Hid (Bk (v2.drewN nq) kb #[.int .i64 pt, .int .i64 ln, .int .u64 (yn : Int), .bool true, .bool tlb] 43) := A1.out.next (dn (Below.refl _ _) nq)
        clear c0 c1 c2 c3 c4 J1 R1 A1 k1
        generalize v2.drewN nq = v3 at *
        have c0 := A2.out.cell 0
        have c1 := A2.out.cell 1
        have c2 := A2.out.cell 2
        have c3 := A2.out.cell 3
        simp only [List.getElem?_toArray, List.getElem?_cons_zero, List.getElem?_cons_succ] at c0 c1 c2 c3
        have ownh := R2.out.h.1
        have owno := R2.out.o.1
        have hbase := J2.out.size
        have hlh : (hereL L n i).length ≤ 1000000 := HLH.out
        have hlo : (onL L n i).length ≤ 1000000 := HLO.out
        go_wp2_with (first
          | (at_builtin; (refine wpList_app_at rfl (.tmp 153) (.tmp 156) 27 36 i0 (.int .u64 0) 1 8 rfl Try.underlying27 ki hz0 hz1 hz2 rfl (by decide) (by decide) w3.heap.size v3 VH _ _ [.int .u64 (yn : Int)] rfl ownh rfl rfl (one_cell yn) hlh hbase ?_; intro V1 w8 o8 g8 e8; obtain ⟨r8, j8⟩ := R2.out.here J2.out o8 g8 e8; have A8 : Hid (Bk w8 kb #[.int .i64 pt, .int .i64 ln, .int .u64 (yn : Int), .bool true, .bool tlb] 43) := out_kept R2.out.h.1 A2.out g8; have R8 : Hid _ := r8; have J8 : Hid _ := j8; have c0 := A8.out.cell 0; have c1 := A8.out.cell 1; have c2 := A8.out.cell 2; have c3 := A8.out.cell 3; simp only [List.getElem?_toArray, List.getElem?_cons_zero, List.getElem?_cons_succ] at c0 c1 c2 c3; have ownh8 := R8.out.h.1; have owno8 := R8.out.o.1; have hbase8 := J8.out.size; clear r8 j8 o8 g8 e8))
          | (at_builtin; (refine wpList_app_at rfl (.tmp 161) (.tmp 164) 27 36 i0 (.int .u64 0) 1 8 rfl Try.underlying27 ki hz0 hz1 hz2 rfl (by decide) (by decide) w3.heap.size w8 VO _ _ [.int .u64 (yn : Int)] rfl owno8 rfl rfl (one_cell yn) hlo hbase8 ?_; intro V2 w9 o9 g9 e9; obtain ⟨r9, j9⟩ := R8.out.on J8.out o9 g9 e9; have A9 : Hid (Bk w9 kb #[.int .i64 pt, .int .i64 ln, .int .u64 (yn : Int), .bool true, .bool tlb] 43) := out_kept R8.out.o.1 A8.out g9; have R9 : Hid _ := r9; have J9 : Hid _ := j9; have c0 := A9.out.cell 0; have c1 := A9.out.cell 1; have c2 := A9.out.cell 2; have c3 := A9.out.cell 3; simp only [List.getElem?_toArray, List.getElem?_cons_zero, List.getElem?_cons_succ] at c0 c1 c2 c3; have ownh9 := R9.out.h.1; have owno9 := R9.out.o.1; have hbase9 := J9.out.size; clear r9 j9 o9 g9 e9)))
        go_roundw
        case rel =>
          exact ⟨i + 1, G1, V1, V2, by have := HEX.out; omega, by go_num, rfl, rfl, J9.out, by have := R9.out; rw [hS.out, oS.out]; exact this⟩
        case measure => have := HEX.out; simp [RowKit.intOf]; omega
end Go.Proofs.Ytkigeakaedkjpaa
