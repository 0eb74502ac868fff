/-
  The walk of LinkSums.
-/
import Derived.Test.YtihfekcdghmkhaaLSumP
import Derived.Test.YtihfekcdghmkhaaLLives
namespace Go.Proofs.Ytihfekcdghmkhaa
open Go.RowKit
open RC (Cl cc cv zc cc_len cc_at)

set_option maxRecDepth 100000 in
set_option maxHeartbeats 16000000 in
theorem sums_law (a0 a1 a2 : Int) (R : List Opn) (a : Option Addr) (c : Nat) (w : World) (hr : Rd w a (ops R)) (hcap : R.length ≤ c) (hm : c ≤ maxLen) (hnil : a = none → c = 0) :
    Calls Try.prog 4 #[.agg #[.int .i64 a0, .int .i64 a1, .int .i64 a2], .slice a R.length c] w fun e w' => e = .returned (.bool true) ∧ Below w.heap.size w w' := by
  obtain ⟨k1, -⟩ := rst_in a0 (m := 4) (by decide) (by decide)
  have k2 : wrap64 ((IntKind.u64.wrap a0).tmod 4) = ((rst a0 4 : Nat) : Int) := rst_eq a0 (m := 4) (by decide) (by decide)
  generalize rst a0 4 = kv at *
  obtain ⟨N, hN⟩ : ∃ N : Nat, 1 + kv = N := ⟨_, rfl⟩
  have k3 : (1 : Int) + (kv : Int) = (N : Int) := by omega
  have hN1 : 1 ≤ N := by omega
  have hN2 : N ≤ 4 := by omega
  clear hN k1
  obtain ⟨j1, -⟩ := rst_in a1 (m := 5) (by decide) (by decide)
  have j2 : wrap64 ((IntKind.u64.wrap a1).tmod 5) = ((rst a1 5 : Nat) : Int) := rst_eq a1 (m := 5) (by decide) (by decide)
  generalize rst a1 5 = jv at *
  obtain ⟨D, hD⟩ : ∃ D : Nat, 1 + jv = D := ⟨_, rfl⟩
  have j3 : (1 : Int) + (jv : Int) = (D : Int) := by omega
  have hD1 : 1 ≤ D := by omega
  have hD2 : D ≤ 5 := by omega
  clear hD j1
  obtain ⟨i1, -⟩ := rst_in a2 (m := 5) (by decide) (by decide)
  have i2 : wrap64 ((IntKind.u64.wrap a2).tmod 5) = ((rst a2 5 : Nat) : Int) := rst_eq a2 (m := 5) (by decide) (by decide)
  generalize rst a2 5 = iv at *
  obtain ⟨Z, hZ⟩ : ∃ Z : Nat, 1 + iv = Z := ⟨_, rfl⟩
  have i3 : (1 : Int) + (iv : Int) = (Z : Int) := by omega
  have hZ1 : 1 ≤ Z := by omega
  have hZ2 : Z ≤ 5 := by omega
  clear hZ i1
  have NC := fun v => link_new (N : Int) (D : Int) (Z : Int) v
  have LI : Hid (Sm N D Z (newS N D Z)) := Sm.new hN1 (by omega) hD1 (by omega) hZ1 (by omega)
  generalize newS N D Z = S0 at *
  have q3 : IntKind.u64.wrap (N : Int) = (N : Int) := by rw [IntKind.wrap_u64]; omega
  have q4 : ¬ N = 0 := by omega
  have HR : Hid (Rd w a (ops R)) := hr
  have EC := fun v => early_any a R.length c v hcap hm hnil
  have P0 : Hid (Bk (w.alloc (.cells #[.int .i64 a0, .int .i64 a1, .int .i64 a2] 22)) w.heap.size #[.int .i64 a0, .int .i64 a1, .int .i64 a2] 22) := Bk.new _ _ _
  have B0 : Hid (Below w.heap.size w (w.alloc (.cells #[.int .i64 a0, .int .i64 a1, .int .i64 a2] 22))) := (Below.refl _ _).alloc (Nat.le_refl _) _
  have LV := lives_any (w.alloc (.cells #[.int .i64 a0, .int .i64 a1, .int .i64 a2] 22))
  clear hr hnil
  go_enter Try.func4, Try.ntmps4
  go_upto_region 1 with fail
  generalize w.alloc (.cells #[.int .i64 a0, .int .i64 a1, .int .i64 a2] 22) = v0 at *
  obtain ⟨ab, hab⟩ : ∃ B, w.heap.size = B := ⟨_, rfl⟩
  have HAB : Hid (w.heap.size = ab) := hab
  rw [hab] at P0 B0 ⊢
  clear hab
  go_wp2_with fail
  go_at_call 10
  with_reducible refine LV.mono ?_
  rintro e w1 ⟨rfl, b1⟩
  have P1 : Hid (Bk w1 ab #[.int .i64 a0, .int .i64 a1, .int .i64 a2] 22) := P0.out.next b1
  have B1 : Hid (Below ab w w1) := B0.out.trans (b1.mono (Nat.le_of_lt P0.out.lt))
  clear LV b1 P0 B0
  have d0 := fun n => (P1.out.drewN n).cell 0
  have d1 := fun n => (P1.out.drewN n).cell 1
  have d2 := fun n => (P1.out.drewN n).cell 2
  simp only [List.getElem?_toArray, List.getElem?_cons_zero, List.getElem?_cons_succ] at d0 d1 d2
  go_wp2_with fail
  go_quiet (fail)
  have d3 := d2 nq
  have B2 : Hid (Below ab w (w1.drewN nq)) := dn B1.out nq
  have Z2 : Hid (ab ≤ (w1.drewN nq).heap.size) := show _ from by rw [World.heap_drewN]; exact Nat.le_of_lt P1.out.lt
  clear P1 B1 d0 d1 d2
  generalize w1.drewN nq = w2 at *
  go_upto_region 5 with fail
  try rw [i2]
  try rw [i3]
  clear d3
  go_wp2_with fail
  go_at_call 11
  with_reducible refine (NC _).mono ?_
  rintro e w3 ⟨b, F0, rfl, l0, f0, b3⟩
  have L3 : Hid (St w w3 b S0 F0) := show St w w3 b S0 F0 from ⟨l0, fun g hg => by have := f0 g hg; have := HAB.out; have := Z2.out; omega, by rw [HAB.out]; exact B2.out.trans (b3.mono Z2.out)⟩
  clear NC l0 f0 b3 B2 Z2
  obtain ⟨n, hn⟩ : ∃ n, min R.length 150 = n := ⟨_, rfl⟩
  have hn150 : n ≤ 150 := by omega
  have hnR : n ≤ R.length := by omega
  have HX : Hid (∀ (j : Nat) (wr : World), j < n → Below w.heap.size w wr → ∃ g o x, a = some ⟨g, o, none⟩ ∧ g < wr.heap.size ∧ R[j]? = some x ∧ wr.cell? ⟨g, o + j * 3, none⟩ = some (.int .i64 x.kd) ∧ wr.cell? ⟨g, o + j * 3 + 1, none⟩ = some (.int .i64 x.lane) ∧ wr.cell? ⟨g, o + j * 3 + 2, none⟩ = some (.int .u64 x.word)) := show _ from fun j wr hj hb => by
    have hj2 : j < R.length := by omega
    obtain ⟨e0, e1, e2⟩ := ops_at R j R[j] (List.getElem?_eq_getElem hj2)
    obtain ⟨g, o, rfl, hg, h0⟩ := (HR.out.below hb) _ _ e0
    obtain ⟨g1, o1, t1, -, h1⟩ := (HR.out.below hb) _ _ e1
    obtain ⟨g2, o2, t2, -, h2⟩ := (HR.out.below hb) _ _ e2
    simp only [Option.some.injEq, Addr.mk.injEq, and_true] at t1 t2
    obtain ⟨rfl, rfl⟩ := t1
    obtain ⟨rfl, rfl⟩ := t2
    exact ⟨g, o, R[j], rfl, hg, List.getElem?_eq_getElem hj2, h0, by rw [Nat.add_assoc]; exact h1, by rw [Nat.add_assoc]; exact h2⟩
  go_wp2_with fail
  go_at_call 13
  with_reducible refine (EC _).mono ?_
  rintro e w4 ⟨rfl, rfl⟩
  rw [hn]
  clear EC HR hn hcap hm
  go_wp2_with fail
  go_loopw [9] (fun x wr => ∃ (j : Nat) (S : LS) (F : Nat → Prop), j ≤ n ∧ x = .int .i64 j ∧ Sm N D Z S ∧ St w wr b S F) (fun x _ => n - (RowKit.intOf x).toNat)
  case atStart => exact ⟨0, S0, F0, Nat.zero_le _, rfl, LI.out, L3.out⟩
  case round =>
    obtain ⟨j, S, F, hjn, rfl, li, l⟩ := hrel
    clear LI L3
    have LI : Hid (Sm N D Z S) := li
    have L : Hid (St w wr b S F) := l
    clear li l S0
    by_cases hex : j < n
    case neg =>
      have e1 : ¬ (j : Int) < (n : Int) := by omega
      go_wp2
      go_ret
      exact ⟨rfl, L.out.below⟩
    obtain ⟨g, o, x, rfl, hg, -, h0, h1, h2⟩ := HX.out j wr hex L.out.below
    have e1 : (j : Int) < (n : Int) := by omega
    have e3 : (0 : Int) ≤ (j : Int) := by omega
    obtain ⟨kd, la, wo⟩ := x
    simp only at h0 h1 h2
    obtain ⟨p1, -⟩ := rst_in la (m := N) (by omega) (by omega)
    have p2 := rst_eq la (m := N) (by omega) (by omega)
    generalize rst la N = q at *
    have O1 : Hid (Bk (wr.alloc (.cells #[.int .i64 kd, .int .i64 la, .int .u64 wo] 40)) wr.heap.size #[.int .i64 kd, .int .i64 la, .int .u64 wo] 40) := Bk.new _ _ _
    have L1 : Hid (St w (wr.alloc (.cells #[.int .i64 kd, .int .i64 la, .int .u64 wo] 40)) b S F) := L.out.alloc _
    have N1 : Hid (¬ F wr.heap.size ∧ w.heap.size ≤ wr.heap.size) := show _ ∧ _ from ⟨L.out.off (Nat.le_refl _), L.out.size⟩
    clear L
    go_upto_region 11 with fail
    clear h0 h1 h2
    generalize wr.alloc (.cells #[.int .i64 kd, .int .i64 la, .int .u64 wo] 40) = v1 at *
    generalize wr.heap.size = ob at *
    have c1 := O1.out.cell 1
    have z1 := O1.out.free 1
    simp only [List.getElem?_toArray, List.getElem?_cons_zero, List.getElem?_cons_succ] at c1
    go_upto_region 12 with fail
    try rw [p2]
    clear p2 c1 z1
    have O2 : Hid (Bk (v1.setCell ⟨ob, 1, none⟩ (.int .i64 (q : Int))) ob #[.int .i64 kd, .int .i64 (q : Int), .int .u64 wo] 40) := show Bk _ _ _ _ from by simpa using O1.out.set 1 (.int .i64 (q : Int))
    have L2 : Hid (St w (v1.setCell ⟨ob, 1, none⟩ (.int .i64 (q : Int))) b S F) := L1.out.far N1.out.1 N1.out.2
    clear O1 L1
    generalize v1.setCell ⟨ob, 1, none⟩ (.int .i64 (q : Int)) = v2 at *
    have c1 := O2.out.cell 1
    simp only [List.getElem?_toArray, List.getElem?_cons_zero, List.getElem?_cons_succ] at c1
    have C1 := link_may L2.out.lk (q : Int)
    have YM : Hid (decide ((sendF S q wo).2 = 0) = mayS S q) := LI.out.may p1 wo
    obtain ⟨y, hy⟩ : ∃ y, mayS S (q : Int) = y := ⟨_, rfl⟩
    rw [hy] at C1 YM
    clear hy
    go_wp2_with fail
    go_at_call 23
    refine C1.mono ?_
    rintro e w5 ⟨rfl, b5⟩
    have L5 : Hid (St w w5 b S F) := L2.out.next b5
    have O5 : Hid (Bk w5 ob #[.int .i64 kd, .int .i64 (q : Int), .int .u64 wo] 40) := O2.out.next b5
    clear C1 b5 L2 O2 c1
    have c0 := O5.out.cell 0
    have c1 := O5.out.cell 1
    have c2 := O5.out.cell 2
    simp only [List.getElem?_toArray, List.getElem?_cons_zero, List.getElem?_cons_succ] at c0 c1 c2
    have C2 := step_any L5.out.lk ⟨kd, q, wo⟩
    have LI2 : Hid (Sm N D Z (stepF S (Opn.k ⟨kd, q, wo⟩) q wo).1) := LI.out.step _ _ _
    have KC := fun v => kind_any ⟨kd, q, wo⟩ v
    have YE : Hid (Opn.k ⟨kd, (q : Int), wo⟩ = 0 → decide ((stepF S (Opn.k ⟨kd, q, wo⟩) q wo).2.2 = 0) = y) := show _ from fun h => by
      rw [h]
      exact YM.out
    simp only [ov] at C2 KC
    generalize Opn.k ⟨kd, (q : Int), wo⟩ = kk at *
    obtain ⟨r, hr⟩ : ∃ r, stepF S kk (q : Int) wo = r := ⟨_, rfl⟩
    rw [hr] at C2 LI2 YE
    obtain ⟨S1, cc1, er⟩ := r
    clear hr YM LI
    go_upto_region 14 with (go_at_call 14; refine C2.mono ?_; rintro e' w6 ⟨F6, rfl, l6, g6⟩)
    have L6 : Hid (St w (w6.alloc (.cells #[.int .i64 cc1.lane, .int .u64 cc1.word] 35)) b S1 F6) := (L5.out.step l6 g6).alloc _
    have O6 : Hid (Bk (w6.alloc (.cells #[.int .i64 cc1.lane, .int .u64 cc1.word] 35)) ob #[.int .i64 kd, .int .i64 (q : Int), .int .u64 wo] 40) := (O5.out.gr g6 N1.out.1).alloc _
    clear C2 l6 g6 L5 O5 c0 c1 c2 N1
    generalize hX : w6.alloc (.cells #[.int .i64 cc1.lane, .int .u64 cc1.word] 35) = v6 at *
    clear hX
    generalize w6.heap.size = cb at *
    have c0 := O6.out.cell 0
    have c1 := O6.out.cell 1
    have c2 := O6.out.cell 2
    simp only [List.getElem?_toArray, List.getElem?_cons_zero, List.getElem?_cons_succ] at c0 c1 c2
    go_cut [78] from 70 to 78 (fun z wc => z = .bool false ∧ St w wc b S1 F6)
    case first =>
      go_wp2_with fail
      go_at_call 24
      refine (KC _).mono ?_
      rintro e' w7 ⟨rfl, b7⟩
      have L7 : Hid (St w w7 b S1 F6) := L6.out.next b7
      clear b7 L6 O6 c0 c1 c2 KC
      by_cases hk0 : kk = 0
      · subst hk0
        have f1 : ((er == (0 : Int)) == y) = true := by
          have := YE.out rfl
          rw [← this]
          simp [BEq.beq]
        clear YE
        go_wp2
        go_meet
        exact ⟨rfl, L7.out⟩
      · have f1 : ((kk : Int) == (0 : Int)) = false := by simp; omega
        go_wp2
        go_meet
        exact ⟨rfl, L7.out⟩
    case rest =>
    obtain ⟨rfl, l⟩ := hcut
    have L : Hid (St w wc b S1 F6) := l
    clear l L6 O6 c0 c1 c2 KC YE
    have T0 : Hid (TN S1 0 = 0) := TN_zero S1
    go_wp2_with fail
    go_loopw [14, 15] (fun fv x wr => ∃ (k T : Nat), k ≤ N ∧ fv = .int .i64 T ∧ x = .int .i64 k ∧ TN S1 k = T ∧ St w wr b S1 F6) (fun _ x _ => N - (RowKit.intOf x).toNat)
    case atStart => exact ⟨0, 0, Nat.zero_le _, rfl, rfl, T0.out, L.out⟩
    case round =>
    obtain ⟨k, T, hk, rfl, rfl, ht, l⟩ := hrel
    clear L T0
    have L : Hid (St w wr b S1 F6) := l
    have HT : Hid (TN S1 k = T) := ht
    clear l
    have hT : T ≤ 20 := by
      rw [← ht]
      have h1 := LI2.out.part hk
      have h2 : k * D ≤ 4 * 5 := Nat.mul_le_mul (by omega) hD2
      omega
    clear ht
    by_cases hkl : k < N
    · have f1 : (k : Int) < (N : Int) := by omega
      obtain ⟨c', r', f', m', x1, x2, x3, x4, x5, x6, x7, x8⟩ := LI2.out.four hkl
      have HT2 : Hid (TN S1 (k + 1) = T + f') := show TN S1 (k + 1) = T + f' from by rw [TN_succ, HT.out, x2]
      have x2' : ((fly S1.ws (k : Int) : Nat) : Int) = (f' : Int) := by rw [x2]
      have x4' : ((com S1.bk (k : Int) : Nat) : Int) = (m' : Int) := by rw [x4]
      have CC1 : Hid (∀ V F, Lk V b S1 F → Calls Try.prog 16 #[.pointer (some ⟨b, 0, none⟩), .int .i64 (k : Int)] V fun e w' => e = .returned (.int .i64 c') ∧ Below V.heap.size V w') := show _ from fun V F h => x1 ▸ link_credits h (k : Int)
      have CC2 : Hid (∀ V F, Lk V b S1 F → Calls Try.prog 19 #[.pointer (some ⟨b, 0, none⟩), .int .i64 (k : Int)] V fun e w' => e = .returned (.int .i64 (f' : Int)) ∧ Below V.heap.size V w') := show _ from fun V F h => x2' ▸ link_flying h (k : Int)
      have CC3 : Hid (∀ V F, Lk V b S1 F → Calls Try.prog 18 #[.pointer (some ⟨b, 0, none⟩), .int .i64 (k : Int)] V fun e w' => e = .returned (.int .i64 r') ∧ Below V.heap.size V w') := show _ from fun V F h => x3 ▸ link_far h (k : Int)
      have CC4 : Hid (∀ V F, Lk V b S1 F → Calls Try.prog 21 #[.pointer (some ⟨b, 0, none⟩), .int .i64 (k : Int)] V fun e w' => e = .returned (.int .i64 (m' : Int)) ∧ Below V.heap.size V w') := show _ from fun V F h => x4' ▸ link_coming h (k : Int)
      have CC5 : Hid (∀ V F, Lk V b S1 F → Calls Try.prog 25 #[.pointer (some ⟨b, 0, none⟩), .int .i64 (k : Int)] V fun e w' => e = .returned (.int .i64 (D : Int)) ∧ Below V.heap.size V w') := show _ from fun V F h => x8 ▸ link_sum h (k : Int)
      have b1 : c' ≤ 5 := by omega
      have b2 : (f' : Int) ≤ 5 := by omega
      have b3 : r' ≤ 5 := by omega
      have b4 : (m' : Int) ≤ 5 := by omega
      have b5 : c' + (f' : Int) ≤ 5 := by omega
      have b6 : c' + (f' : Int) + r' ≤ 5 := by omega
      clear x1 x2 x3 x4 x2' x4' x8
      obtain ⟨mn, hmn0, hmin⟩ : ∃ mn : Int, 0 ≤ mn ∧ ∀ (ts : Array TypeId) (t : TypeId) (W : World), (Builtin.min_ ts t #[.int .i64 c', .int .i64 (f' : Int), .int .i64 r', .int .i64 (m' : Int)]).run Try.prog W = .ok (.int .i64 mn) W := by
        refine ⟨if (m' : Int) < (if r' < (if (f' : Int) < c' then (f' : Int) else c') then r' else (if (f' : Int) < c' then (f' : Int) else c')) then (m' : Int) else (if r' < (if (f' : Int) < c' then (f' : Int) else c') then r' else (if (f' : Int) < c' then (f' : Int) else c')), ?_, fun ts t W => by simp [Builtin.min_, Builtin.min2]⟩
        have h1 : 0 ≤ (if (f' : Int) < c' then (f' : Int) else c') := by split <;> omega
        generalize (if (f' : Int) < c' then (f' : Int) else c') = u at *
        have h2 : 0 ≤ (if r' < u then r' else u) := by split <;> omega
        generalize (if r' < u then r' else u) = u at *
        split <;> omega
      have f9 : ¬ mn < 0 := by omega
      go_upto_region 19 with (first
        | (go_at_call 16; refine (CC1.out _ _ L.out.lk).mono ?_; rintro e' wx ⟨rfl, bx⟩; have LN : Hid (St w wx b S1 F6) := L.out.next bx; clear L bx; have L : Hid (St w wx b S1 F6) := LN.out; clear LN)
        | (go_at_call 19; refine (CC2.out _ _ L.out.lk).mono ?_; rintro e' wx ⟨rfl, bx⟩; have LN : Hid (St w wx b S1 F6) := L.out.next bx; clear L bx; have L : Hid (St w wx b S1 F6) := LN.out; clear LN)
        | (go_at_call 18; refine (CC3.out _ _ L.out.lk).mono ?_; rintro e' wx ⟨rfl, bx⟩; have LN : Hid (St w wx b S1 F6) := L.out.next bx; clear L bx; have L : Hid (St w wx b S1 F6) := LN.out; clear LN)
        | (go_at_call 21; refine (CC4.out _ _ L.out.lk).mono ?_; rintro e' wx ⟨rfl, bx⟩; have LN : Hid (St w wx b S1 F6) := L.out.next bx; clear L bx; have L : Hid (St w wx b S1 F6) := LN.out; clear LN)
        | (go_at_call 25; refine (CC5.out _ _ L.out.lk).mono ?_; rintro e' wx ⟨rfl, bx⟩; have LN : Hid (St w wx b S1 F6) := L.out.next bx; clear L bx; have L : Hid (St w wx b S1 F6) := LN.out; clear LN))
      clear CC1 CC2 CC3 CC4 CC5 hmin f9
      go_wp2
      exact ⟨⟨k + 1, T + f', by omega, by go_num, by go_num, HT2.out, L.out⟩, by simp [RowKit.intOf]; omega⟩
    have f1 : ¬ (k : Int) < (N : Int) := by omega
    obtain rfl : k = N := by omega
    have hTZ : (T : Int) ≤ (Z : Int) := by
      have := LI2.out.total
      rw [HT.out] at this
      omega
    clear hkl HT
    go_wp2
    exact ⟨⟨j + 1, S1, F6, by omega, by go_num, LI2.out, L.out⟩, by simp [RowKit.intOf]; omega⟩
end Go.Proofs.Ytihfekcdghmkhaa
