/-
  The walk of LinkLanes.
-/
import Derived.Test.YtihfekcdghmkhaaLLaneP
import Derived.Test.YtihfekcdghmkhaaLLives
namespace Go.Proofs.Ytihfekcdghmkhaa
open Go.RowKit
open RC (Cl cc cv zc cc_len cc_at)

set_option maxRecDepth 100000 in
set_option maxHeartbeats 16000000 in
theorem lanes_law (a0 a1 la : Int) (R : List Int) (a : Option Addr) (c : Nat) (w : World) (hr : Rd w a (vi R)) (_hm : R.length ≤ maxLen) :
    Calls Try.prog 8 #[.agg #[.int .i64 a0, .int .i64 a1], .int .i64 la, .slice a R.length c] w fun e w' => e = .returned (.bool true) ∧ Below w.heap.size w w' := by
  obtain ⟨k1, -⟩ := rst_in a0 (m := 4) (by decide) (by decide)
  obtain ⟨j1, -⟩ := rst_in a1 (m := 5) (by decide) (by decide)
  have k2 : wrap64 ((IntKind.u64.wrap a0).tmod 4) = ((rst a0 4 : Nat) : Int) := rst_eq a0 (m := 4) (by decide) (by decide)
  have j2 : wrap64 ((IntKind.u64.wrap a1).tmod 5) = ((rst a1 5 : Nat) : Int) := rst_eq a1 (m := 5) (by decide) (by decide)
  generalize rst a0 4 = pk at *
  generalize rst a1 5 = pj at *
  obtain ⟨N, hN⟩ : ∃ N : Nat, 2 + pk = N := ⟨_, rfl⟩
  obtain ⟨D, hD⟩ : ∃ D : Nat, 1 + pj = D := ⟨_, rfl⟩
  have k3 : (2 : Int) + (pk : Int) = (N : Int) := by omega
  have j3 : (1 : Int) + (pj : Int) = (D : Int) := by omega
  have hN2 : 2 ≤ N := by omega
  have hN5 : N ≤ 5 := by omega
  have hD1 : 1 ≤ D := by omega
  have hD5 : D ≤ 5 := by omega
  clear hN hD k1 j1
  obtain ⟨q1, -⟩ := rst_in la (m := N) (by omega) (by omega)
  have q2 := rst_eq la (m := N) (by omega) (by omega)
  generalize rst la N = q at *
  have q3 : IntKind.u64.wrap (N : Int) = (N : Int) := by rw [IntKind.wrap_u64]; omega
  have q4 : ¬ N = 0 := by omega
  have NC := fun v => link_new (N : Int) (D : Int) 64 v
  have LI : Hid (LaneInv N D q (newS N D 64)) := LaneInv.new hN2 hN5 hD1 hD5 q1
  generalize newS N D 64 = S0 at *
  have HR : Hid (Rd w a (vi R)) := hr
  have P0 : Hid (Bk (w.alloc (.cells #[.int .i64 a0, .int .i64 a1] 54)) w.heap.size #[.int .i64 a0, .int .i64 a1] 54) := Bk.new _ _ _
  have B0 : Hid (Below w.heap.size w (w.alloc (.cells #[.int .i64 a0, .int .i64 a1] 54))) := (Below.refl _ _).alloc (Nat.le_refl _) _
  have LV := lives_any (w.alloc (.cells #[.int .i64 a0, .int .i64 a1] 54))
  clear hr
  go_enter Try.func8, Try.ntmps8
  go_upto_region 1 with fail
  generalize w.alloc (.cells #[.int .i64 a0, .int .i64 a1] 54) = v0 at *
  obtain ⟨ab, hab⟩ : ∃ B, w.heap.size = B := ⟨_, rfl⟩
  have HAB : Hid (w.heap.size = ab) := hab
  rw [hab] at P0 B0 ⊢
  clear hab
  go_wp2_with fail
  go_at_call 10
  with_reducible refine LV.mono ?_
  rintro e w1 ⟨rfl, b1⟩
  have P1 : Hid (Bk w1 ab #[.int .i64 a0, .int .i64 a1] 54) := P0.out.next b1
  have B1 : Hid (Below ab w w1) := B0.out.trans (b1.mono (Nat.le_of_lt P0.out.lt))
  clear LV b1 P0 B0
  have d0 := fun n => (P1.out.drewN n).cell 0
  have d1 := fun n => (P1.out.drewN n).cell 1
  simp only [List.getElem?_toArray, List.getElem?_cons_zero, List.getElem?_cons_succ] at d0 d1
  go_wp2_with fail
  go_quiet (fail)
  have B2 : Hid (Below ab w (w1.drewN nq)) := dn B1.out nq
  have Z2 : Hid (ab ≤ (w1.drewN nq).heap.size) := show _ from by rw [World.heap_drewN]; exact Nat.le_of_lt P1.out.lt
  clear P1 B1 d0 d1
  generalize w1.drewN nq = w2 at *
  go_wp2_with fail
  go_at_call 11
  with_reducible refine (NC _).mono ?_
  rintro e w3 ⟨b, F0, rfl, l0, f0, b3⟩
  have L3 : Hid (St w w3 b S0 F0) := show St w w3 b S0 F0 from ⟨l0, fun g hg => by have := f0 g hg; have := HAB.out; have := Z2.out; omega, by rw [HAB.out]; exact B2.out.trans (b3.mono Z2.out)⟩
  clear NC l0 f0 b3 B2 Z2
  obtain ⟨n, hn⟩ : ∃ n, R.length = n := ⟨_, rfl⟩
  have HN : Hid (R.length = n) := hn
  rw [hn]
  have HX : Hid (∀ (j : Nat) (wr : World), j < n → Below w.heap.size w wr → ∃ g o x, a = some ⟨g, o, none⟩ ∧ g < wr.heap.size ∧ wr.cell? ⟨g, o + j, none⟩ = some (.int .i64 x)) := show _ from fun j wr hj hb => by
    obtain ⟨g, o, e, hg, hc⟩ := (HR.out.below hb) j _ (vi_at (by omega))
    exact ⟨g, o, _, e, hg, hc⟩
  clear hn HR
  go_wp2_with fail
  go_loopw [10] (fun x wr => ∃ (j : Nat) (S : LS) (F : Nat → Prop), j ≤ n ∧ j ≤ 20 ∧ x = .int .i64 j ∧ LaneInv N D q S ∧ St w wr b S F) (fun x _ => 20 - (RowKit.intOf x).toNat)
  case atStart => exact ⟨0, S0, F0, Nat.zero_le _, Nat.zero_le _, rfl, LI.out, L3.out⟩
  case round =>
    obtain ⟨j, S, F, hjn, hj2, rfl, li, l⟩ := hrel
    clear LI L3
    have LI : Hid (LaneInv N D q S) := li
    have L : Hid (St w wr b S F) := l
    clear li l S0
    by_cases hex : j < n ∧ j < 20
    · obtain ⟨h1, h2⟩ := hex
      obtain ⟨g, o, x, rfl, hg, hc⟩ := HX.out j wr h1 L.out.below
      have e1 : (j : Int) < (n : Int) := by omega
      have e2 : (j : Int) < 20 := by omega
      have e3 : (0 : Int) ≤ (j : Int) := by omega
      obtain ⟨p1, -⟩ := rst_in x (m := N) (by omega) (by omega)
      have p2 := rst_eq x (m := N) (by omega) (by omega)
      generalize rst x N = k at *
      go_upto_region 10 with fail
      try rw [p2]
      clear p2
      go_upto_if 57 with fail
      obtain ⟨G, hG⟩ : ∃ G, ((k : Int) != (q : Int)) = G := ⟨_, rfl⟩
      have HG : Hid (G = true → k ≠ q) := show _ from fun h e => by rw [e, h] at hG; simp at hG
      rw [hG]
      clear hG
      go_cut [] from 58 to 63 (fun wc => ∃ S' F', LaneInv N D q S' ∧ St w wc b S' F')
      case first =>
        cases G
        · go_wp2
          go_meet
          exact ⟨S, F, LI.out, L.out⟩
        · have C1 := link_send L.out.lk (k : Int) 1
          go_wp2_with fail
          go_at_call 30
          refine C1.mono ?_
          rintro e w5 ⟨F5, rfl, l5, g5⟩
          have L5 : Hid (St w w5 b (sendF S k 1).1 F5) := L.out.step l5 g5
          clear C1 l5 g5
          have C2 := link_carry L5.out.lk
          go_wp2_with fail
          go_at_call 26
          refine C2.mono ?_
          rintro e w6 ⟨F6, rfl, l6, g6⟩
          have L6 : Hid (St w w6 b (carryF (sendF S k 1).1).1 F6) := L5.out.step l6 g6
          clear C2 l6 g6 L5
          go_wp2
          go_meet
          exact ⟨_, F6, LI.out.round p1 (HG.out (by simp)) 1, L6.out⟩
      case rest =>
      obtain ⟨S2, F2, li, l⟩ := hcut
      have LI2 : Hid (LaneInv N D q S2) := li
      have L2 : Hid (St w wc b S2 F2) := l
      obtain ⟨r1, r2, r3, r4⟩ := li.reads q1
      have CC1 : Hid (∀ V F, Lk V b S2 F → Calls Try.prog 16 #[.pointer (some ⟨b, 0, none⟩), .int .i64 (q : Int)] V fun e w' => e = .returned (.int .i64 (D : Int)) ∧ Below V.heap.size V w') := show _ from fun V F h => r1 ▸ link_credits h (q : Int)
      have CC2 : Hid (∀ V F, Lk V b S2 F → Calls Try.prog 19 #[.pointer (some ⟨b, 0, none⟩), .int .i64 (q : Int)] V fun e w' => e = .returned (.int .i64 0) ∧ Below V.heap.size V w') := show _ from fun V F h => r2 ▸ link_flying h (q : Int)
      have CC3 : Hid (∀ V F, Lk V b S2 F → Calls Try.prog 18 #[.pointer (some ⟨b, 0, none⟩), .int .i64 (q : Int)] V fun e w' => e = .returned (.int .i64 0) ∧ Below V.heap.size V w') := show _ from fun V F h => r3 ▸ link_far h (q : Int)
      have CC4 : Hid (∀ V F, Lk V b S2 F → Calls Try.prog 21 #[.pointer (some ⟨b, 0, none⟩), .int .i64 (q : Int)] V fun e w' => e = .returned (.int .i64 0) ∧ Below V.heap.size V w') := show _ from fun V F h => r4 ▸ link_coming h (q : Int)
      clear li l LI L r1 r2 r3 r4 p1
      have Cw7 := CC1.out wc F2 L2.out.lk
      go_wp2_with fail
      go_at_call 16
      with_reducible refine Cw7.mono ?_
      rintro e w7 ⟨rfl, bw7⟩
      have L7 : Hid (St w w7 b S2 F2) := L2.out.next bw7
      clear Cw7 bw7 L2
      have Cw8 := CC2.out w7 F2 L7.out.lk
      go_wp2_with fail
      go_at_call 19
      with_reducible refine Cw8.mono ?_
      rintro e w8 ⟨rfl, bw8⟩
      have L8 : Hid (St w w8 b S2 F2) := L7.out.next bw8
      clear Cw8 bw8 L7
      have Cw9 := CC3.out w8 F2 L8.out.lk
      go_wp2_with fail
      go_at_call 18
      with_reducible refine Cw9.mono ?_
      rintro e w9 ⟨rfl, bw9⟩
      have L9 : Hid (St w w9 b S2 F2) := L8.out.next bw9
      clear Cw9 bw9 L8
      have Cw10 := CC4.out w9 F2 L9.out.lk
      go_wp2_with fail
      go_at_call 21
      with_reducible refine Cw10.mono ?_
      rintro e w10 ⟨rfl, bw10⟩
      have L10 : Hid (St w w10 b S2 F2) := L9.out.next bw10
      clear Cw10 bw10 L9

      go_wp2
      exact ⟨⟨j + 1, S2, F2, by omega, by omega, by go_num, LI2.out, L10.out⟩, by simp [RowKit.intOf]; omega⟩
    have LO : Hid (LaneOut N D q 0 S) := LI.out.out
    clear LI
    have ways : ¬ (j : Int) < (n : Int) ∨ ((j : Int) < (n : Int) ∧ ¬ (j : Int) < 20) := by omega
    clear hex HX
    rcases ways with e1 | ⟨e1, e2⟩
    all_goals
      go_wp2_with fail
      go_loopw [12] (fun x wr => ∃ (i : Nat) (S : LS) (F : Nat → Prop), i ≤ D ∧ x = .int .i64 i ∧ LaneOut N D q i S ∧ St w wr b S F) (fun x _ => D - (RowKit.intOf x).toNat)
      case atStart => exact ⟨0, S, F, Nat.zero_le _, rfl, LO.out, L.out⟩
      case round =>
        obtain ⟨i, S', F', hi, rfl, lo, l⟩ := hrel
        clear LO L
        have LO : Hid (LaneOut N D q i S') := lo
        have L : Hid (St w wr b S' F') := l
        clear lo l
        by_cases hlt : i < D
        · have e3 : (i : Int) < (D : Int) := by omega
          have e4 : IntKind.u64.wrap (i : Int) = (i : Int) := by rw [IntKind.wrap_u64]; omega
          obtain ⟨s1, s2⟩ := LO.out.send q1 hlt hD5 (i : Int)
          have LO2 : Hid (LaneOut N D q (i + 1) (sendF S' q i).1) := s2
          have C1 := link_send L.out.lk (q : Int) (i : Int)
          rw [s1] at C1
          clear s1 s2
          go_wp2_with fail
          go_at_call 30
          refine C1.mono ?_
          rintro e w5 ⟨F5, rfl, l5, g5⟩
          have L5 : Hid (St w w5 b (sendF S' q i).1 F5) := L.out.step l5 g5
          clear C1 l5 g5 L LO
          go_wp2
          exact ⟨⟨i + 1, _, F5, by omega, by go_num, LO2.out, L5.out⟩, by simp [RowKit.intOf]; omega⟩
        have e3 : ¬ (i : Int) < (D : Int) := by omega
        obtain rfl : i = D := by omega
        obtain ⟨s1, s2⟩ := LO.out.full q1 0
        have C1 := link_send L.out.lk (q : Int) 0
        rw [s1] at C1
        have C2 : Hid (∀ V F, Lk V b S' F → Calls Try.prog 23 #[.pointer (some ⟨b, 0, none⟩), .int .i64 (q : Int)] V fun e w' => e = .returned (.bool false) ∧ Below V.heap.size V w') := show _ from fun V F h => s2 ▸ link_may h (q : Int)
        have s3 := LO.out.fl
        have C3 : Hid (∀ V F, Lk V b S' F → Calls Try.prog 19 #[.pointer (some ⟨b, 0, none⟩), .int .i64 (q : Int)] V fun e w' => e = .returned (.int .i64 (i : Int)) ∧ Below V.heap.size V w') := show _ from fun V F h => s3 ▸ link_flying h (q : Int)
        clear s1 s2 s3 LO
        go_wp2_with fail
        go_at_call 30
        refine C1.mono ?_
        rintro e w5 ⟨F5, rfl, l5, g5⟩
        have L5 : Hid (St w w5 b S' F5) := L.out.step l5 g5
        clear C1 l5 g5 L
        have O2 := C2.out w5 F5 L5.out.lk
        go_wp2_with fail
        go_at_call 23
        refine O2.mono ?_
        rintro e w6 ⟨rfl, b6⟩
        have L6 : Hid (St w w6 b S' F5) := L5.out.next b6
        clear O2 b6 L5 C2
        have O3 := C3.out w6 F5 L6.out.lk
        go_wp2_with fail
        go_at_call 19
        refine O3.mono ?_
        rintro e w7 ⟨rfl, b7⟩
        have L7 : Hid (St w w7 b S' F5) := L6.out.next b7
        clear O3 b7 L6 C3
        go_wp2
        go_ret
        exact ⟨rfl, L7.out.below⟩
end Go.Proofs.Ytihfekcdghmkhaa
