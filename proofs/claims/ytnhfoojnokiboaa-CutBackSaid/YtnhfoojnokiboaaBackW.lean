/-
  The walk of CutBack.
-/
import Derived.Test.YtnhfoojnokiboaaLB
namespace Go.Proofs.Ytnhfoojnokiboaa
open Go.RowKit

set_option maxRecDepth 100000 in
set_option maxHeartbeats 8000000 in
theorem back_law (s : Int) (c : Bool) (a : Option Addr) (cap : Nat) (x : ByteArray) (hs : List (Int × Int)) (w : World) (hm : hs.length ≤ maxLen) (hx : x.size ≤ maxLen) (hr : Rd w a (pc hs)) :
    Calls Try.prog 5 #[pcv s c (.slice a hs.length cap) x] w fun e w' => e = .returned (.bool true) ∧ Below w.heap.size w w' := by
  have F := fine ⟨s, c, hs, x⟩
  have HBP : Hid (bp (gd ⟨s, c, hs, x⟩) = gd ⟨s, c, hs, x⟩) := bp_gd _
  have GC : ∀ w', Rd w' a (pc hs) → Calls Try.prog 20 #[pcv s c (.slice a hs.length cap) x] w' (PcR w' (gd ⟨s, c, hs, x⟩)) := fun w' h => good_any s c a cap x hs w' hm hx h
  generalize gd ⟨s, c, hs, x⟩ = P at *
  obtain ⟨n, hn⟩ : ∃ n, hs.length = n := ⟨_, rfl⟩
  rw [hn] at GC ⊢
  have HR : Hid (Rd w a (pc hs)) := hr
  have HG : Hid (∀ w', Rd w' a (pc hs) → Calls Try.prog 20 #[pcv s c (.slice a n cap) x] w' (PcR w' P)) := GC
  have H0 : Hid (Bk (w.alloc (.cells #[.int .i64 s, .bool c, .slice a n cap, .string x] 24)) w.heap.size #[.int .i64 s, .bool c, .slice a n cap, .string x] 24) := Bk.new _ _ _
  have B0 : Hid (Below w.heap.size w (w.alloc (.cells #[.int .i64 s, .bool c, .slice a n cap, .string x] 24))) := (Below.refl _ _).alloc (Nat.le_refl _) _
  have LV := lives_any (w.alloc (.cells #[.int .i64 s, .bool c, .slice a n cap, .string x] 24))
  clear hr hn hm hx GC
  simp only [pcv, pcc] at *
  go_enter Try.func5, Try.ntmps5
  go_wp2_with fail
  go_at_call 8
  with_reducible refine LV.mono ?_
  rintro e w1 ⟨rfl, hb1⟩
  have B1 : Hid (Below w.heap.size w w1) := B0.out.trans (hb1.mono B0.out.size)
  have H1 : Hid (Bk w1 w.heap.size #[.int .i64 s, .bool c, .slice a n cap, .string x] 24) := H0.out.next hb1
  have c0 := H1.out.cell 0
  have c1 := H1.out.cell 1
  have c2 := H1.out.cell 2
  have c3 := H1.out.cell 3
  simp at c0 c1 c2 c3
  have GW := HG.out w1 (HR.out.below B1.out)
  clear LV hb1 H0 B0
  go_wp2_with fail
  go_at_call 20
  with_reducible refine GW.mono ?_
  rintro e w2 ⟨ga, gcap, rfl, hgc, rd2, hb2⟩
  have B2 : Hid (Below w.heap.size w w2) := B1.out.trans (hb2.mono B1.out.size)
  have BK := F.back ga gcap w2 rd2 HBP.out
  simp only [pcv, pcc] at BK
  clear GW hb2 H1 B1 HG c0 c1 c2 c3 hgc rd2
  go_wp2_with fail
  go_at_call 9
  with_reducible refine BK.mono ?_
  rintro e w3 ⟨ba, bcap, rfl, hbc, rd3, hb3⟩
  have B3 : Hid (Below w.heap.size w (w3.alloc (.cells #[.int .i64 P.s, .bool P.c, .slice ba P.hs.length bcap, .string P.x] 28))) := (B2.out.trans (hb3.mono B2.out.size)).alloc (Nat.le_trans B2.out.size hb3.size) _
  have X3 : Hid (Bk (w3.alloc (.cells #[.int .i64 P.s, .bool P.c, .slice ba P.hs.length bcap, .string P.x] 28)) w3.heap.size #[.int .i64 P.s, .bool P.c, .slice ba P.hs.length bcap, .string P.x] 28) := Bk.new _ _ _
  have R3 : Hid (Rd (w3.alloc (.cells #[.int .i64 P.s, .bool P.c, .slice ba P.hs.length bcap, .string P.x] 28)) ba (pc P.hs)) := rd3.alloc _
  clear BK hb3 B2 hbc rd3 HBP
  go_upto_region 4 with fail
  generalize w3.alloc (.cells #[.int .i64 P.s, .bool P.c, .slice ba P.hs.length bcap, .string P.x] 28) = v3 at *
  generalize w3.heap.size = b at *
  have c0 := X3.out.cell 0
  have c1 := X3.out.cell 1
  have c2 := X3.out.cell 2
  have c3 := X3.out.cell 3
  simp at c0 c1 c2 c3
  have WC := F.words ba bcap v3 R3.out
  simp only [pcv, pcc] at WC
  go_wp2_with fail
  go_at_call 10
  with_reducible refine WC.mono ?_
  rintro e w4 ⟨la, lcap, rfl, hlc, rd4, hb4⟩
  have B4 : Hid (Below w.heap.size w w4) := B3.out.trans (hb4.mono B3.out.size)
  have X4 : Hid (Bk w4 b #[.int .i64 P.s, .bool P.c, .slice ba P.hs.length bcap, .string P.x] 28) := X3.out.next hb4
  have R4 : Hid (Rd w4 ba (pc P.hs)) := R3.out.below hb4
  have RC := F.read la lcap w4 rd4
  simp only [pcv, pcc] at RC
  have HNW : Hid (P.ws.length = P.hs.length + (nb P.x.size + 1)) := F.ws_small.2
  clear WC hb4 B3 X3 R3 c0 c1 c2 c3 hlc rd4
  go_wp2_with fail
  go_at_call 21
  with_reducible refine RC.mono ?_
  rintro e w5 ⟨ra, rcap, rfl, hrc, rd5, hb5⟩
  have B5 : Hid (Below w.heap.size w (w5.alloc (.cells #[.int .i64 P.s, .bool P.c, .slice ra P.hs.length rcap, .string P.x] 28))) := (B4.out.trans (hb5.mono B4.out.size)).alloc (Nat.le_trans B4.out.size hb5.size) _
  have A5 : Below w5.heap.size w5 (w5.alloc (.cells #[.int .i64 P.s, .bool P.c, .slice ra P.hs.length rcap, .string P.x] 28)) := (Below.refl _ _).alloc (Nat.le_refl _) _
  have X5 : Hid (Bk (w5.alloc (.cells #[.int .i64 P.s, .bool P.c, .slice ra P.hs.length rcap, .string P.x] 28)) b #[.int .i64 P.s, .bool P.c, .slice ba P.hs.length bcap, .string P.x] 28) := (X4.out.next hb5).alloc _
  have R5 : Hid (Rd (w5.alloc (.cells #[.int .i64 P.s, .bool P.c, .slice ra P.hs.length rcap, .string P.x] 28)) ba (pc P.hs)) := (R4.out.below hb5).alloc _
  have Y5 : Hid (Bk (w5.alloc (.cells #[.int .i64 P.s, .bool P.c, .slice ra P.hs.length rcap, .string P.x] 28)) w5.heap.size #[.int .i64 P.s, .bool P.c, .slice ra P.hs.length rcap, .string P.x] 28) := Bk.new _ _ _
  have S5 : Hid (Rd (w5.alloc (.cells #[.int .i64 P.s, .bool P.c, .slice ra P.hs.length rcap, .string P.x] 28)) ra (pc P.hs)) := rd5.alloc _
  clear RC hb5 B4 X4 R4 hrc rd5 A5
  go_upto_region 6 with fail
  generalize w5.alloc (.cells #[.int .i64 P.s, .bool P.c, .slice ra P.hs.length rcap, .string P.x] 28) = v5 at *
  generalize w5.heap.size = y at *
  have c0 := X5.out.cell 0
  have c1 := X5.out.cell 1
  have c2 := X5.out.cell 2
  have c3 := X5.out.cell 3
  simp at c0 c1 c2 c3
  have PK := F.packets ba bcap v5 R5.out
  simp only [pcv, pcc] at PK
  go_wp2_with fail
  go_at_call 13
  with_reducible refine PK.mono ?_
  rintro e w6 ⟨ma, mcap, rfl, hmc, rd6, hb6⟩
  have B6 : Hid (Below w.heap.size w w6) := B5.out.trans (hb6.mono B5.out.size)
  have X6 : Hid (Bk w6 b #[.int .i64 P.s, .bool P.c, .slice ba P.hs.length bcap, .string P.x] 28) := X5.out.next hb6
  have Y6 : Hid (Bk w6 y #[.int .i64 P.s, .bool P.c, .slice ra P.hs.length rcap, .string P.x] 28) := Y5.out.next hb6
  have R6 : Hid (Rd w6 ba (pc P.hs)) := R5.out.below hb6
  have S6 : Hid (Rd w6 ra (pc P.hs)) := S5.out.below hb6
  have M6 : Hid (Rd w6 ma (kc P.s P.x P.hs)) := rd6
  have SC := fun u => F.same ba bcap (w6.drewN u) ra rcap R6.out S6.out
  have WW := fun w => F.wwords w
  have hl6 : P.hs.length ≤ 6 := F.l6
  have hx64 : P.x.size ≤ 64 := F.x64
  have HN : Hid (P.hs.length ≤ 6) := hl6
  clear PK hb6 B5 X5 R5 Y5 S5 rd6 hmc c0 c1 c2 c3 F HR
  obtain ⟨Ps, Pc', Ph, Px⟩ := P
  simp only [pcv, pcc] at *
  obtain ⟨nl, hnl⟩ : ∃ nl, (Pc.ws ⟨Ps, Pc', Ph, Px⟩).length = nl := ⟨_, rfl⟩
  rw [hnl] at WW ⊢
  obtain ⟨m, hmm⟩ : ∃ m, Ph.length = m := ⟨_, rfl⟩
  have HM : Hid (Ph.length = m) := hmm
  rw [hmm] at X6 Y6 SC WW hl6 ⊢
  clear hmm hnl HNW HN
  go_wp2_with fail
  go_loopw [9] (fun i wr => ∃ k u : Nat, k ≤ m ∧ i = .int .i64 k ∧ wr = w6.drewN u) (fun i _ => m - (RowKit.intOf i).toNat)
  case atStart => exact ⟨0, 0, Nat.zero_le _, rfl, rfl⟩
  case round =>
    obtain ⟨k, u, hk, rfl, rfl⟩ := hrel
    have X7 : Hid (Bk (w6.drewN u) b #[.int .i64 Ps, .bool Pc', .slice ba m bcap, .string Px] 28) := X6.out
    have Y7 : Hid (Bk (w6.drewN u) y #[.int .i64 Ps, .bool Pc', .slice ra m rcap, .string Px] 28) := Y6.out
    have B7 : Hid (Below w.heap.size w (w6.drewN u)) := dn B6.out u
    have SCu := SC u
    have d0 := X7.out.cell 0
    have d1 := X7.out.cell 1
    have d2 := X7.out.cell 2
    have d3 := X7.out.cell 3
    simp only [List.getElem?_toArray, List.getElem?_cons_zero, List.getElem?_cons_succ] at d0 d1 d2 d3
    by_cases hlt : k < m
    · have e1 : (k : Int) < (m : Int) := by omega
      have e2 : (0 : Int) ≤ (k : Int) := by omega
      obtain ⟨g, o, rfl, hg, m0, m1, m2, m3⟩ := M6.out.packet (k := k) (by rw [HM.out]; exact hlt)
      obtain ⟨g', o', rfl, hg', h0, h1⟩ := R6.out.pair (k := k) (by rw [HM.out]; exact hlt)
      replace m0 : (w6.drewN u).cell? ⟨g, o + k * 4, none⟩ = _ := m0
      replace m1 : (w6.drewN u).cell? ⟨g, o + k * 4 + 1, none⟩ = _ := m1
      replace m2 : (w6.drewN u).cell? ⟨g, o + k * 4 + 2, none⟩ = _ := m2
      replace m3 : (w6.drewN u).cell? ⟨g, o + k * 4 + 3, none⟩ = _ := m3
      replace h0 : (w6.drewN u).cell? ⟨g', o' + k * 2, none⟩ = _ := h0
      replace h1 : (w6.drewN u).cell? ⟨g', o' + k * 2 + 1, none⟩ = _ := h1
      generalize (Ph.getD k (0, 0)).1 = p at *
      generalize (Ph.getD k (0, 0)).2 = q at *
      clear SCu SC WW hg hg'
      obtain ⟨v, hv⟩ : ∃ v, w6.drewN u = v := ⟨_, rfl⟩
      have HV : Hid (w6.drewN u = v) := hv
      rw [hv] at d0 d1 d2 d3 m0 m1 m2 m3 h0 h1 B7 ⊢
      clear hv X7 Y7
      go_wp2_with fail
      go_quiet (fail)
      go_wp2
      go_roundw
      case rel => exact ⟨k + 1, _, by omega, by go_num, by rw [← HV.out]; exact World.drewN_drewN _ _ _⟩
      case measure => simp [RowKit.intOf]; omega
    · obtain rfl : k = m := by omega
      have e1 : ¬ (k : Int) < (k : Int) := by omega
      have r0 := Y7.out.cell 0
      have r1 := Y7.out.cell 1
      have r2 := Y7.out.cell 2
      have r3 := Y7.out.cell 3
      simp only [List.getElem?_toArray, List.getElem?_cons_zero, List.getElem?_cons_succ] at r0 r1 r2 r3
      go_wp2_with fail
      go_at_call 18
      with_reducible refine SCu.mono ?_
      rintro e w8 ⟨rfl, hb8⟩
      have B8 : Hid (Below w.heap.size w w8) := B7.out.trans (hb8.mono B7.out.size)
      have X8 := X7.out.next hb8
      have d0 := X8.cell 0
      have d1 := X8.cell 1
      have d2 := X8.cell 2
      have d3 := X8.cell 3
      simp only [List.getElem?_toArray, List.getElem?_cons_zero, List.getElem?_cons_succ] at d0 d1 d2 d3
      clear hb8 X8 SCu SC
      go_wp2_with fail
      go_at_call 23
      with_reducible refine (WW _).mono ?_
      rintro e w9 ⟨rfl, rfl⟩
      go_wp2
      go_ret
      exact ⟨rfl, B8.out⟩
end Go.Proofs.Ytnhfoojnokiboaa
