/-
  The walk of LinkDrains.
-/
import Derived.Test.YtihfekcdghmkhaaLDrainP
import Derived.Test.YtihfekcdghmkhaaLLives
namespace Go.Proofs.Ytihfekcdghmkhaa
open Go.RowKit
open RC (Cl cc cv zc cc_len cc_at)

set_option maxRecDepth 100000 in
set_option maxHeartbeats 16000000 in
theorem drains_law (a0 a1 a2 : Int) (R : List Opn) (a : Option Addr) (c : Nat) (w : World) (hr : Rd w a (ops R)) (hcap : R.length ≤ c) (hm : c ≤ maxLen) (hnil : a = none → c = 0) :
    Calls Try.prog 6 #[.agg #[.int .i64 a0, .int .i64 a1, .int .i64 a2], .slice a R.length c] w fun e w' => e = .returned (.bool true) ∧ Below w.heap.size w w' := by
  obtain ⟨k1, -⟩ := rst_in a0 (m := 4) (by decide) (by decide)
  have k2 : wrap64 ((IntKind.u64.wrap a0).tmod 4) = ((rst a0 4 : Nat) : Int) := rst_eq a0 (m := 4) (by decide) (by decide)
  generalize rst a0 4 = kv at *
  obtain ⟨N, hN⟩ : ∃ N : Nat, 1 + kv = N := ⟨_, rfl⟩
  have k3 : (1 : Int) + (kv : Int) = (N : Int) := by omega
  have hN1 : 1 ≤ N := by omega
  have hN2 : N ≤ 4 := by omega
  clear hN k1
  obtain ⟨j1, -⟩ := rst_in a1 (m := 5) (by decide) (by decide)
  have j2 : wrap64 ((IntKind.u64.wrap a1).tmod 5) = ((rst a1 5 : Nat) : Int) := rst_eq a1 (m := 5) (by decide) (by decide)
  generalize rst a1 5 = jv at *
  obtain ⟨D, hD⟩ : ∃ D : Nat, 1 + jv = D := ⟨_, rfl⟩
  have j3 : (1 : Int) + (jv : Int) = (D : Int) := by omega
  have hD1 : 1 ≤ D := by omega
  have hD2 : D ≤ 5 := by omega
  clear hD j1
  have NC := fun v => link_new (N : Int) (D : Int) a2 v
  have LI : Hid (Dr N D (newS N D a2)) := Dr.new hN1 (by omega) hD1 (by omega) a2
  generalize newS N D a2 = S0 at *
  have HR : Hid (Rd w a (ops R)) := hr
  have EC := fun v => early_any a R.length c v hcap hm hnil
  have P0 : Hid (Bk (w.alloc (.cells #[.int .i64 a0, .int .i64 a1, .int .i64 a2] 22)) w.heap.size #[.int .i64 a0, .int .i64 a1, .int .i64 a2] 22) := Bk.new _ _ _
  have B0 : Hid (Below w.heap.size w (w.alloc (.cells #[.int .i64 a0, .int .i64 a1, .int .i64 a2] 22))) := (Below.refl _ _).alloc (Nat.le_refl _) _
  have LV := lives_any (w.alloc (.cells #[.int .i64 a0, .int .i64 a1, .int .i64 a2] 22))
  clear hr hnil
  go_enter Try.func6, Try.ntmps6
  go_upto_region 1 with fail
  generalize w.alloc (.cells #[.int .i64 a0, .int .i64 a1, .int .i64 a2] 22) = v0 at *
  obtain ⟨ab, hab⟩ : ∃ B, w.heap.size = B := ⟨_, rfl⟩
  have HAB : Hid (w.heap.size = ab) := hab
  rw [hab] at P0 B0 ⊢
  clear hab
  go_wp2_with fail
  go_at_call 10
  with_reducible refine LV.mono ?_
  rintro e w1 ⟨rfl, b1⟩
  have P1 : Hid (Bk w1 ab #[.int .i64 a0, .int .i64 a1, .int .i64 a2] 22) := P0.out.next b1
  have B1 : Hid (Below ab w w1) := B0.out.trans (b1.mono (Nat.le_of_lt P0.out.lt))
  clear LV b1 P0 B0
  have d0 := fun n => (P1.out.drewN n).cell 0
  have d1 := fun n => (P1.out.drewN n).cell 1
  have d2 := fun n => (P1.out.drewN n).cell 2
  simp only [List.getElem?_toArray, List.getElem?_cons_zero, List.getElem?_cons_succ] at d0 d1 d2
  go_wp2_with fail
  go_quiet (fail)
  have d3 := d2 nq
  have B2 : Hid (Below ab w (w1.drewN nq)) := dn B1.out nq
  have Z2 : Hid (ab ≤ (w1.drewN nq).heap.size) := show _ from by rw [World.heap_drewN]; exact Nat.le_of_lt P1.out.lt
  clear P1 B1 d0 d1 d2
  generalize w1.drewN nq = w2 at *
  go_wp2_with fail
  go_at_call 11
  with_reducible refine (NC _).mono ?_
  rintro e w3 ⟨b, F0, rfl, l0, f0, b3⟩
  have L3 : Hid (St w w3 b S0 F0) := show St w w3 b S0 F0 from ⟨l0, fun g hg => by have := f0 g hg; have := HAB.out; have := Z2.out; omega, by rw [HAB.out]; exact B2.out.trans (b3.mono Z2.out)⟩
  clear NC l0 f0 b3 B2 Z2 d3
  obtain ⟨n, hn⟩ : ∃ n, min R.length 150 = n := ⟨_, rfl⟩
  have hn150 : n ≤ 150 := by omega
  have hnR : n ≤ R.length := by omega
  have HX : Hid (∀ (j : Nat) (wr : World), j < n → Below w.heap.size w wr → ∃ g o x, a = some ⟨g, o, none⟩ ∧ g < wr.heap.size ∧ R[j]? = some x ∧ wr.cell? ⟨g, o + j * 3, none⟩ = some (.int .i64 x.kd) ∧ wr.cell? ⟨g, o + j * 3 + 1, none⟩ = some (.int .i64 x.lane) ∧ wr.cell? ⟨g, o + j * 3 + 2, none⟩ = some (.int .u64 x.word)) := show _ from fun j wr hj hb => by
    have hj2 : j < R.length := by omega
    obtain ⟨e0, e1, e2⟩ := ops_at R j R[j] (List.getElem?_eq_getElem hj2)
    obtain ⟨g, o, rfl, hg, h0⟩ := (HR.out.below hb) _ _ e0
    obtain ⟨g1, o1, t1, -, h1⟩ := (HR.out.below hb) _ _ e1
    obtain ⟨g2, o2, t2, -, h2⟩ := (HR.out.below hb) _ _ e2
    simp only [Option.some.injEq, Addr.mk.injEq, and_true] at t1 t2
    obtain ⟨rfl, rfl⟩ := t1
    obtain ⟨rfl, rfl⟩ := t2
    exact ⟨g, o, R[j], rfl, hg, List.getElem?_eq_getElem hj2, h0, by rw [Nat.add_assoc]; exact h1, by rw [Nat.add_assoc]; exact h2⟩
  go_wp2_with fail
  go_at_call 13
  with_reducible refine (EC _).mono ?_
  rintro e w4 ⟨rfl, rfl⟩
  rw [hn]
  clear EC HR hn hcap hm
  go_wp2_with fail
  go_loopw [8] (fun x wr => ∃ (j : Nat) (S : LS) (F : Nat → Prop), j ≤ n ∧ x = .int .i64 j ∧ Dr N D S ∧ St w wr b S F) (fun x _ => n - (RowKit.intOf x).toNat)
  case atStart => exact ⟨0, S0, F0, Nat.zero_le _, rfl, LI.out, L3.out⟩
  case round =>
    obtain ⟨j, S, F, hjn, rfl, li, l⟩ := hrel
    clear LI L3
    have LI : Hid (Dr N D S) := li
    have L : Hid (St w wr b S F) := l
    clear li l S0
    by_cases hex : j < n
    · obtain ⟨g, o, x, rfl, hg, -, h0, h1, h2⟩ := HX.out j wr hex L.out.below
      have e1 : (j : Int) < (n : Int) := by omega
      have e3 : (0 : Int) ≤ (j : Int) := by omega
      have C1 := step_any L.out.lk x
      have LI2 : Hid (Dr N D (stepF S x.k x.lane x.word).1) := LI.out.step _ _ _
      obtain ⟨r, hr⟩ : ∃ r, stepF S x.k x.lane x.word = r := ⟨_, rfl⟩
      rw [hr] at C1 LI2
      obtain ⟨S1, c1, e⟩ := r
      clear hr
      obtain ⟨kd, la, wo⟩ := x
      simp only [ov] at *
      go_wp2_with fail
      go_at_call 14
      refine C1.mono ?_
      rintro e' w5 ⟨F5, rfl, l5, g5⟩
      have L5 : Hid (St w w5 b S1 F5) := L.out.step l5 g5
      clear C1 l5 g5 L LI h0 h1 h2
      go_wp2
      exact ⟨⟨j + 1, S1, F5, by omega, by go_num, LI2.out, L5.out⟩, by simp [RowKit.intOf]; omega⟩
    have e1 : ¬ (j : Int) < (n : Int) := by omega
    clear hex HX
    have LW : Hid (S.ws.length ≤ 70 - 0) := show S.ws.length ≤ 70 - 0 from by have h1 := LI.out.ok.wl; have h2 := LI.out.ok.r64; omega
    go_wp2_with fail
    go_loopw [9] (fun x wr => ∃ (i : Nat) (S : LS) (F : Nat → Prop), i ≤ 70 ∧ x = .int .i64 i ∧ Dr N D S ∧ S.ws.length ≤ 70 - i ∧ St w wr b S F) (fun x _ => 70 - (RowKit.intOf x).toNat)
    case atStart => exact ⟨0, S, F, Nat.zero_le _, rfl, LI.out, LW.out, L.out⟩
    case round =>
    obtain ⟨i, S', F', hi, rfl, li, lw, l⟩ := hrel
    clear LI L LW
    have LI : Hid (Dr N D S') := li
    have LW : Hid (S'.ws.length ≤ 70 - i) := lw
    have L : Hid (St w wr b S' F') := l
    clear li lw l e1
    by_cases hlt : i < 70
    · have e3 : (i : Int) < 70 := by omega
      have C1 := link_carry L.out.lk
      obtain ⟨q1, q2⟩ := LI.out.carry LW.out
      have Q1 : Hid (Dr N D (carryF S').1) := q1
      have Q2 : Hid ((carryF S').1.ws.length ≤ 70 - (i + 1)) := q2
      obtain ⟨r, hr⟩ : ∃ r, carryF S' = r := ⟨_, rfl⟩
      rw [hr] at C1 Q1 Q2
      obtain ⟨S1, c1, e⟩ := r
      clear hr q1 q2
      go_wp2_with fail
      go_at_call 26
      refine C1.mono ?_
      rintro e' w5 ⟨F5, rfl, l5, g5⟩
      have L5 : Hid (St w w5 b S1 F5) := L.out.step l5 g5
      clear C1 l5 g5 L LI LW
      go_wp2
      exact ⟨⟨i + 1, S1, F5, by omega, by go_num, Q1.out, Q2.out, L5.out⟩, by simp [RowKit.intOf]; omega⟩
    have e3 : ¬ (i : Int) < 70 := by omega
    obtain rfl : i = 70 := by omega
    have LF : Hid (DrF N D 0 D S') := DrF.start LI.out (by have := LW.out; omega)
    clear LI LW hlt
    go_wp2_with fail
    go_loopw [10] (fun x wr => ∃ (k : Nat) (S : LS) (F : Nat → Prop), k ≤ N ∧ x = .int .i64 k ∧ DrF N D k D S ∧ St w wr b S F) (fun x _ => N - (RowKit.intOf x).toNat)
    case atStart => exact ⟨0, S', F', Nat.zero_le _, rfl, LF.out, L.out⟩
    case round =>
    obtain ⟨k, S2, F2, hk, rfl, lf, l⟩ := hrel
    clear LF L e3
    have LF : Hid (DrF N D k D S2) := lf
    have L : Hid (St w wr b S2 F2) := l
    clear lf l
    by_cases hkl : k < N
    · have e3 : (k : Int) < (N : Int) := by omega
      go_wp2_with fail
      go_loopw [11] (fun x wr => ∃ (i : Nat) (S : LS) (F : Nat → Prop), i ≤ D ∧ x = .int .i64 i ∧ DrF N D k (D - i) S ∧ St w wr b S F) (fun x _ => D - (RowKit.intOf x).toNat)
      case atStart => exact ⟨0, S2, F2, Nat.zero_le _, rfl, LF.out, L.out⟩
      case round =>
      obtain ⟨i, S3, F3, hi, rfl, lf, l⟩ := hrel
      clear LF L
      have LF : Hid (DrF N D k (D - i) S3) := lf
      have L : Hid (St w wr b S3 F3) := l
      clear lf l
      by_cases hlt : i < D
      · have e4 : (i : Int) < (D : Int) := by omega
        have C1 := link_taken L.out.lk (k : Int)
        have LF2 : Hid (DrF N D k (D - (i + 1)) (takenF S3 k).1) := DrF.taken (by have := LF.out; rwa [show D - i = D - (i + 1) + 1 by omega] at this) hkl
        obtain ⟨r, hr⟩ : ∃ r, takenF S3 k = r := ⟨_, rfl⟩
        rw [hr] at C1 LF2
        obtain ⟨S4, e⟩ := r
        clear hr
        go_wp2_with fail
        go_at_call 27
        refine C1.mono ?_
        rintro e' w5 ⟨F5, rfl, l5, g5⟩
        have L5 : Hid (St w w5 b S4 F5) := L.out.step l5 g5
        clear C1 l5 g5 L LF
        go_wp2
        exact ⟨⟨i + 1, S4, F5, by omega, by go_num, LF2.out, L5.out⟩, by simp [RowKit.intOf]; omega⟩
      have e4 : ¬ (i : Int) < (D : Int) := by omega
      obtain rfl : i = D := by omega
      have LF2 : Hid (DrF N i (k + 1) i S3) := DrF.next (by have := LF.out; rwa [Nat.sub_self] at this) hkl
      clear LF hlt
      go_wp2
      exact ⟨⟨k + 1, S3, F3, by omega, by go_num, LF2.out, L.out⟩, by simp [RowKit.intOf]; omega⟩
    have e3 : ¬ (k : Int) < (N : Int) := by omega
    obtain rfl : k = N := by omega
    have LB : Hid (DrB k D (k * D) S2) := LF.out.back
    clear LF hkl
    obtain ⟨M, hM⟩ : ∃ M, k * D = M := ⟨_, rfl⟩
    have hMI : (k : Int) * (D : Int) = (M : Int) := by rw [← hM]; simp
    have hM20 : M ≤ 20 := by rw [← hM]; exact Nat.mul_le_mul hN2 hD2
    rw [hM] at LB
    clear hM
    have LB0 : Hid (DrB k D (M - 0) S2) := LB.out
    clear LB
    go_wp2_with fail
    go_loopw [12] (fun x wr => ∃ (i : Nat) (S : LS) (F : Nat → Prop), i ≤ M ∧ x = .int .i64 i ∧ DrB k D (M - i) S ∧ St w wr b S F) (fun x _ => M - (RowKit.intOf x).toNat)
    case atStart => exact ⟨0, S2, F2, Nat.zero_le _, rfl, LB0.out, L.out⟩
    case round =>
    obtain ⟨i, S3, F3, hi, rfl, lb, l⟩ := hrel
    clear LB0 L
    have LB : Hid (DrB k D (M - i) S3) := lb
    have L : Hid (St w wr b S3 F3) := l
    clear lb l
    by_cases hlt : i < M
    · have e4 : (i : Int) < (M : Int) := by omega
      have C1 := link_credit L.out.lk
      have LB2 : Hid (DrB k D (M - (i + 1)) (creditF S3).1) := DrB.credit (by have := LB.out; rwa [show M - i = M - (i + 1) + 1 by omega] at this)
      obtain ⟨r, hr⟩ : ∃ r, creditF S3 = r := ⟨_, rfl⟩
      rw [hr] at C1 LB2
      obtain ⟨S4, e⟩ := r
      clear hr
      go_wp2_with fail
      go_at_call 28
      refine C1.mono ?_
      rintro e' w5 ⟨F5, rfl, l5, g5⟩
      have L5 : Hid (St w w5 b S4 F5) := L.out.step l5 g5
      clear C1 l5 g5 L LB
      go_wp2
      exact ⟨⟨i + 1, S4, F5, by omega, by go_num, LB2.out, L5.out⟩, by simp [RowKit.intOf]; omega⟩
    have e4 : ¬ (i : Int) < (M : Int) := by omega
    obtain rfl : i = M := by omega
    have LB2 : Hid (DrB k D 0 S3) := show _ from by have := LB.out; rwa [Nat.sub_self] at this
    clear LB hlt
    go_wp2_with fail
    go_loopw [13] (fun x wr => ∃ (p : Nat) (F : Nat → Prop), p ≤ k ∧ x = .int .i64 p ∧ St w wr b S3 F) (fun x _ => k - (RowKit.intOf x).toNat)
    case atStart => exact ⟨0, F3, Nat.zero_le _, rfl, L.out⟩
    case round =>
    obtain ⟨p, F4, hp, rfl, l⟩ := hrel
    clear L
    have L : Hid (St w wr b S3 F4) := l
    clear l e3
    by_cases hpl : p < k
    · have e3 : (p : Int) < (k : Int) := by omega
      obtain ⟨s1, s2⟩ := LB2.out.all hpl
      have C1 := link_credits L.out.lk (p : Int)
      rw [s1] at C1
      have C2 : Hid (∀ V F, Lk V b S3 F → Calls Try.prog 27 #[.pointer (some ⟨b, 0, none⟩), .int .i64 (p : Int)] V fun e w' => ∃ F', e = .returned (.int .i64 13) ∧ Lk w' b S3 F' ∧ Gr F V w' F') := show _ from fun V F h => by
        have := link_taken h (p : Int)
        rwa [s2] at this
      clear s1 s2
      go_wp2_with fail
      go_at_call 16
      refine C1.mono ?_
      rintro e' w5 ⟨rfl, b5⟩
      have L5 : Hid (St w w5 b S3 F4) := L.out.next b5
      clear C1 b5 L
      have O2 := C2.out w5 F4 L5.out.lk
      go_wp2_with fail
      go_at_call 27
      refine O2.mono ?_
      rintro e' w6 ⟨F6, rfl, l6, g6⟩
      have L6 : Hid (St w w6 b S3 F6) := L5.out.step l6 g6
      clear O2 l6 g6 L5 C2
      go_wp2
      exact ⟨⟨p + 1, F6, by omega, by go_num, L6.out⟩, by simp [RowKit.intOf]; omega⟩
    have e3 : ¬ (p : Int) < (k : Int) := by omega
    obtain ⟨s1, s2⟩ := LB2.out.done
    have C1 := link_idle L.out.lk
    rw [s2] at C1
    have C2 : Hid (∀ V F, Lk V b S3 F → Calls Try.prog 28 #[.pointer (some ⟨b, 0, none⟩)] V fun e w' => ∃ F', e = .returned (.int .i64 8) ∧ Lk w' b S3 F' ∧ Gr F V w' F') := show _ from fun V F h => by
      have := link_credit h
      rwa [s1] at this
    clear s1 s2 LB2
    go_wp2_with fail
    go_at_call 29
    refine C1.mono ?_
    rintro e' w5 ⟨rfl, b5⟩
    have L5 : Hid (St w w5 b S3 F4) := L.out.next b5
    clear C1 b5 L
    have O2 := C2.out w5 F4 L5.out.lk
    go_wp2_with fail
    go_at_call 28
    refine O2.mono ?_
    rintro e' w6 ⟨F6, rfl, l6, g6⟩
    have L6 : Hid (St w w6 b S3 F6) := L5.out.step l6 g6
    clear O2 l6 g6 L5 C2
    go_wp2
    go_ret
    exact ⟨rfl, L6.out.below⟩
end Go.Proofs.Ytihfekcdghmkhaa
