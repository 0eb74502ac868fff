/-
  The walk of LinkRow.
-/
import Derived.Test.YtihfekcdghmkhaaLRowP
import Derived.Test.YtihfekcdghmkhaaLLives
import Derived.Test.YtihfekcdghmkhaaLSend
namespace Go.Proofs.Ytihfekcdghmkhaa
open Go.RowKit
open RC (Cl cc cv zc cc_len cc_at)

set_option maxRecDepth 100000 in
set_option maxHeartbeats 16000000 in
theorem row_law (a0 a1 a2 : Int) (R : List Opn) (a : Option Addr) (c : Nat) (w : World) (hr : Rd w a (ops R)) (hcap : R.length ≤ c) (hm : c ≤ maxLen) (hnil : a = none → c = 0) :
    Calls Try.prog 5 #[.agg #[.int .i64 a0, .int .i64 a1, .int .i64 a2], .slice a R.length c] w fun e w' => e = .returned (.bool true) ∧ Below w.heap.size w w' := by
  obtain ⟨k1, -⟩ := rst_in a0 (m := 4) (by decide) (by decide)
  have k2 : wrap64 ((IntKind.u64.wrap a0).tmod 4) = ((rst a0 4 : Nat) : Int) := rst_eq a0 (m := 4) (by decide) (by decide)
  generalize rst a0 4 = kv at *
  obtain ⟨N, hN⟩ : ∃ N : Nat, 1 + kv = N := ⟨_, rfl⟩
  have k3 : (1 : Int) + (kv : Int) = (N : Int) := by omega
  have hN1 : 1 ≤ N := by omega
  have hN2 : N ≤ 4 := by omega
  clear hN k1
  obtain ⟨i0, ki, hz0, hz1, hz2⟩ := info_parts Try.info35
  have NC := fun v => link_new (N : Int) a1 a2 v
  have LI : Hid (RowInv N (newS N a1 a2) [] 0) := RowInv.new hN1 (by omega) a1 a2
  generalize newS N a1 a2 = S0 at *
  have q3 : IntKind.u64.wrap (N : Int) = (N : Int) := by rw [IntKind.wrap_u64]; omega
  have q4 : ¬ N = 0 := by omega
  have HR : Hid (Rd w a (ops R)) := hr
  have EC := fun v => early_any a R.length c v hcap hm hnil
  have P0 : Hid (Bk (w.alloc (.cells #[.int .i64 a0, .int .i64 a1, .int .i64 a2] 22)) w.heap.size #[.int .i64 a0, .int .i64 a1, .int .i64 a2] 22) := Bk.new _ _ _
  have B0 : Hid (Below w.heap.size w (w.alloc (.cells #[.int .i64 a0, .int .i64 a1, .int .i64 a2] 22))) := (Below.refl _ _).alloc (Nat.le_refl _) _
  have LV := lives_any (w.alloc (.cells #[.int .i64 a0, .int .i64 a1, .int .i64 a2] 22))
  clear hr hnil
  go_enter Try.func5, Try.ntmps5
  go_upto_region 1 with fail
  generalize w.alloc (.cells #[.int .i64 a0, .int .i64 a1, .int .i64 a2] 22) = v0 at *
  obtain ⟨ab, hab⟩ : ∃ B, w.heap.size = B := ⟨_, rfl⟩
  have HAB : Hid (w.heap.size = ab) := hab
  rw [hab] at P0 B0 ⊢
  clear hab
  go_wp2_with fail
  go_at_call 10
  with_reducible refine LV.mono ?_
  rintro e w1 ⟨rfl, b1⟩
  have P1 : Hid (Bk w1 ab #[.int .i64 a0, .int .i64 a1, .int .i64 a2] 22) := P0.out.next b1
  have B1 : Hid (Below ab w w1) := B0.out.trans (b1.mono (Nat.le_of_lt P0.out.lt))
  clear LV b1 P0 B0
  have d0 := P1.out.cell 0
  have d1 := P1.out.cell 1
  have d2 := P1.out.cell 2
  simp only [List.getElem?_toArray, List.getElem?_cons_zero, List.getElem?_cons_succ] at d0 d1 d2
  go_upto_region 4 with fail
  try rw [k2]
  try rw [k3]
  go_wp2_with fail
  go_at_call 11
  with_reducible refine (NC _).mono ?_
  rintro e w3 ⟨b, F0, rfl, l0, f0, b3⟩
  have L3 : Hid (St w w3 b S0 F0) := show St w w3 b S0 F0 from ⟨l0, fun g hg => by have := f0 g hg; have := HAB.out; have := P1.out.lt; omega, by rw [HAB.out]; exact B1.out.trans (b3.mono (Nat.le_of_lt P1.out.lt))⟩
  clear NC l0 f0 b3 P1 B1 d0 d1 d2 k2 k3
  obtain ⟨n, hn⟩ : ∃ n, min R.length 150 = n := ⟨_, rfl⟩
  have hn150 : n ≤ 150 := by omega
  have hnR : n ≤ R.length := by omega
  have HX : Hid (∀ (j : Nat) (wr : World), j < n → Below w.heap.size w wr → ∃ g o x, a = some ⟨g, o, none⟩ ∧ g < wr.heap.size ∧ R[j]? = some x ∧ wr.cell? ⟨g, o + j * 3, none⟩ = some (.int .i64 x.kd) ∧ wr.cell? ⟨g, o + j * 3 + 1, none⟩ = some (.int .i64 x.lane) ∧ wr.cell? ⟨g, o + j * 3 + 2, none⟩ = some (.int .u64 x.word)) := show _ from fun j wr hj hb => by
    have hj2 : j < R.length := by omega
    obtain ⟨e0, e1, e2⟩ := ops_at R j R[j] (List.getElem?_eq_getElem hj2)
    obtain ⟨g, o, rfl, hg, h0⟩ := (HR.out.below hb) _ _ e0
    obtain ⟨g1, o1, t1, -, h1⟩ := (HR.out.below hb) _ _ e1
    obtain ⟨g2, o2, t2, -, h2⟩ := (HR.out.below hb) _ _ e2
    simp only [Option.some.injEq, Addr.mk.injEq, and_true] at t1 t2
    obtain ⟨rfl, rfl⟩ := t1
    obtain ⟨rfl, rfl⟩ := t2
    exact ⟨g, o, R[j], rfl, hg, List.getElem?_eq_getElem hj2, h0, by rw [Nat.add_assoc]; exact h1, by rw [Nat.add_assoc]; exact h2⟩
  go_wp2_with fail
  go_at_call 13
  with_reducible refine (EC _).mono ?_
  rintro e w4 ⟨rfl, rfl⟩
  rw [hn]
  clear EC HR hn hcap hm
  go_wp2_with fail
  go_loopw [7, 8, 9] (fun sv nv x wr => ∃ (j nn : Nat) (S : LS) (F : Nat → Prop) (sent : List Cl) (V : Value), j ≤ n ∧ x = .int .i64 j ∧ nv = .int .i64 nn ∧ V = sv ∧ sent.length ≤ j ∧ RowInv N S sent nn ∧ St w wr b S F ∧ Row 35 2 w wr F V sent.length (sent.flatMap cc)) (fun _ _ x _ => n - (RowKit.intOf x).toNat)
  case atStart => exact ⟨0, 0, S0, F0, [], _, Nat.zero_le _, rfl, rfl, rfl, Nat.le_refl _, LI.out, L3.out, Row.nil _ _ _ _ _⟩
  case round =>
    obtain ⟨j, nn, S, F, sent, V, hjn, rfl, rfl, hV, hsj, li, l, rw0⟩ := hrel
    subst hV
    clear LI L3
    have LI : Hid (RowInv N S sent nn) := li
    have L : Hid (St w wr b S F) := l
    have RW : Hid (Row 35 2 w wr F V sent.length (sent.flatMap cc)) := rw0
    have hnl : nn ≤ sent.length := li.le
    clear li l rw0 S0
    by_cases hex : j < n
    case neg =>
      have e1 : ¬ (j : Int) < (n : Int) := by omega
      go_wp2
      go_ret
      exact ⟨rfl, L.out.below⟩
    obtain ⟨g, o, x, rfl, hg, -, h0, h1, h2⟩ := HX.out j wr hex L.out.below
    have e1 : (j : Int) < (n : Int) := by omega
    have e3 : (0 : Int) ≤ (j : Int) := by omega
    have e4 : IntKind.u64.wrap (j : Int) = (j : Int) := by rw [IntKind.wrap_u64]; omega
    obtain ⟨kd, la, wo⟩ := x
    simp only at h0 h1 h2
    obtain ⟨p1, -⟩ := rst_in la (m := N) (by omega) (by omega)
    have p2 := rst_eq la (m := N) (by omega) (by omega)
    generalize rst la N = q at *
    have O1 : Hid (Bk (wr.alloc (.cells #[.int .i64 kd, .int .i64 la, .int .u64 wo] 40)) wr.heap.size #[.int .i64 kd, .int .i64 la, .int .u64 wo] 40) := Bk.new _ _ _
    have L1 : Hid (St w (wr.alloc (.cells #[.int .i64 kd, .int .i64 la, .int .u64 wo] 40)) b S F) := L.out.alloc _
    have R1 : Hid (Row 35 2 w (wr.alloc (.cells #[.int .i64 kd, .int .i64 la, .int .u64 wo] 40)) F V sent.length (sent.flatMap cc)) := RW.out.next ((Below.refl _ _).alloc (Nat.le_refl _) _)
    have N1 : Hid (¬ F wr.heap.size ∧ w.heap.size ≤ wr.heap.size) := show _ ∧ _ from ⟨L.out.off (Nat.le_refl _), L.out.size⟩
    have W1 : Hid (∀ q', V.ownBlock = some q' → q' ≠ wr.heap.size) := show _ from fun q' hq => by have := (RW.out.1.lt hq).2; omega
    clear L RW
    go_upto_region 12 with fail
    clear h0 h1 h2
    generalize wr.alloc (.cells #[.int .i64 kd, .int .i64 la, .int .u64 wo] 40) = v1 at *
    generalize wr.heap.size = ob at *
    have c1 := O1.out.cell 1
    have z1 := O1.out.free 1
    simp only [List.getElem?_toArray, List.getElem?_cons_zero, List.getElem?_cons_succ] at c1
    go_upto_region 13 with fail
    try rw [p2]
    clear p2 c1 z1
    have O2 : Hid (Bk (v1.setCell ⟨ob, 1, none⟩ (.int .i64 (q : Int))) ob #[.int .i64 kd, .int .i64 (q : Int), .int .u64 wo] 40) := show Bk _ _ _ _ from by simpa using O1.out.set 1 (.int .i64 (q : Int))
    have L2 : Hid (St w (v1.setCell ⟨ob, 1, none⟩ (.int .i64 (q : Int))) b S F) := L1.out.far N1.out.1 N1.out.2
    have R2 : Hid (Row 35 2 w (v1.setCell ⟨ob, 1, none⟩ (.int .i64 (q : Int))) F V sent.length (sent.flatMap cc)) := R1.out.far W1.out
    clear O1 L1 R1
    generalize v1.setCell ⟨ob, 1, none⟩ (.int .i64 (q : Int)) = v2 at *
    have z2 := O2.out.free 2
    have c2 := O2.out.cell 2
    simp only [List.getElem?_toArray, List.getElem?_cons_zero, List.getElem?_cons_succ] at c2
    go_upto_region 14 with fail
    clear c2 z2
    have O3 : Hid (Bk (v2.setCell ⟨ob, 2, none⟩ (.int .u64 (j : Int))) ob #[.int .i64 kd, .int .i64 (q : Int), .int .u64 (j : Int)] 40) := show Bk _ _ _ _ from by simpa using O2.out.set 2 (.int .u64 (j : Int))
    have L3 : Hid (St w (v2.setCell ⟨ob, 2, none⟩ (.int .u64 (j : Int))) b S F) := L2.out.far N1.out.1 N1.out.2
    have R3 : Hid (Row 35 2 w (v2.setCell ⟨ob, 2, none⟩ (.int .u64 (j : Int))) F V sent.length (sent.flatMap cc)) := R2.out.far W1.out
    clear O2 L2 R2
    generalize v2.setCell ⟨ob, 2, none⟩ (.int .u64 (j : Int)) = v3 at *
    have c0 := O3.out.cell 0
    have c1 := O3.out.cell 1
    have c2 := O3.out.cell 2
    simp only [List.getElem?_toArray, List.getElem?_cons_zero, List.getElem?_cons_succ] at c0 c1 c2
    have C2 := step_any L3.out.lk ⟨kd, q, (j : Int)⟩
    have KC := fun v => kind_any ⟨kd, q, (j : Int)⟩ v
    have hk4 := Opn.k_lt ⟨kd, (q : Int), (j : Int)⟩
    simp only [ov] at C2 KC
    generalize Opn.k ⟨kd, (q : Int), (j : Int)⟩ = kk at *
    obtain ⟨r, hr⟩ : ∃ r, stepF S kk (q : Int) (j : Int) = r := ⟨_, rfl⟩
    rw [hr] at C2
    obtain ⟨S1, cc1, er⟩ := r
    have WAYS := LI.out.step hk4 q (j : Int) hr
    have HWAYS : Hid (_ ∨ _) := WAYS
    clear hr LI WAYS hk4
    go_upto_region 15 with (go_at_call 14; refine C2.mono ?_; rintro e' w6 ⟨F6, rfl, l6, g6⟩)
    have L6 : Hid (St w (w6.alloc (.cells #[.int .i64 cc1.lane, .int .u64 cc1.word] 35)) b S1 F6) := (L3.out.step l6 g6).alloc _
    have O6 : Hid (Bk (w6.alloc (.cells #[.int .i64 cc1.lane, .int .u64 cc1.word] 35)) ob #[.int .i64 kd, .int .i64 (q : Int), .int .u64 (j : Int)] 40) := (O3.out.gr g6 N1.out.1).alloc _
    have R6 : Hid (Row 35 2 w (w6.alloc (.cells #[.int .i64 cc1.lane, .int .u64 cc1.word] 35)) F6 V sent.length (sent.flatMap cc)) := (R3.out.gr g6).next ((Below.refl _ _).alloc (Nat.le_refl _) _)
    have K6 : Hid (Bk (w6.alloc (.cells #[.int .i64 cc1.lane, .int .u64 cc1.word] 35)) w6.heap.size #[.int .i64 cc1.lane, .int .u64 cc1.word] 35) := Bk.new _ _ _
    clear C2 l6 g6 L3 O3 R3 c0 c1 c2 N1
    generalize hX : w6.alloc (.cells #[.int .i64 cc1.lane, .int .u64 cc1.word] 35) = v6 at *
    clear hX
    generalize w6.heap.size = cb at *
    have c0 := O6.out.cell 0
    have c1 := O6.out.cell 1
    have c2 := O6.out.cell 2
    simp only [List.getElem?_toArray, List.getElem?_cons_zero, List.getElem?_cons_succ] at c0 c1 c2
    go_wp2_with fail
    go_at_call 24
    refine (KC _).mono ?_
    rintro e' w7 ⟨rfl, b7⟩
    have L7 : Hid (St w w7 b S1 F6) := L6.out.next b7
    have O7 : Hid (Bk w7 ob #[.int .i64 kd, .int .i64 (q : Int), .int .u64 (j : Int)] 40) := O6.out.next b7
    have R7 : Hid (Row 35 2 w w7 F6 V sent.length (sent.flatMap cc)) := R6.out.next b7
    have K7 : Hid (Bk w7 cb #[.int .i64 cc1.lane, .int .u64 cc1.word] 35) := K6.out.next b7
    clear b7 L6 O6 R6 K6 c0 c1 c2
    have c0 := O7.out.cell 0
    have c1 := O7.out.cell 1
    have c2 := O7.out.cell 2
    simp only [List.getElem?_toArray, List.getElem?_cons_zero, List.getElem?_cons_succ] at c0 c1 c2
    rcases HWAYS.out with ⟨rfl, rfl, inv⟩ | ⟨rfl, her, inv⟩ | ⟨rfl, rfl, hlt, hat, inv⟩ | ⟨rfl, rfl, hlt, inv⟩ | ⟨hk2, inv⟩
    · -- sent
      have INV : Hid (RowInv N S1 (sent ++ [⟨(q : Int), (j : Int)⟩]) nn) := inv
      clear inv HWAYS
      have rown := R7.out.1
      have hsz := L7.out.size
      have hlen : sent.length ≤ 1000000 := by omega
      have HC : Hid (sent.flatMap cc ++ [.int .i64 (q : Int), .int .u64 (j : Int)] = (sent ++ [(⟨(q : Int), (j : Int)⟩ : Cl)]).flatMap cc) := (show sent.flatMap cc ++ [Value.int .i64 (q : Int), .int .u64 (j : Int)] = (sent ++ [(⟨(q : Int), (j : Int)⟩ : Cl)]).flatMap cc from by simp)
      have HL : Hid ((sent ++ [(⟨(q : Int), (j : Int)⟩ : Cl)]).length = sent.length + 1) := (show (sent ++ [(⟨(q : Int), (j : Int)⟩ : Cl)]).length = sent.length + 1 from by simp)
      obtain ⟨m, hm⟩ : ∃ m, sent.length = m := ⟨_, rfl⟩
      rw [hm] at rown hsj hnl hlen
      have HM : Hid (sent.length = m) := hm
      generalize hfc : sent.flatMap cc = fc at *
      clear hm hfc
      go_wp2_with (at_builtin; go_loud (refine wpList_app_at rfl (.tmp 63) (.tmp 69) 28 35 i0 (.agg #[.int .i64 0, .int .u64 0]) 2 16 rfl Try.underlying28 ki hz0 hz1 hz2 rfl (by decide) (by decide) w.heap.size w7 V m fc [.int .i64 (q : Int), .int .u64 (j : Int)] rfl rown rfl rfl (by intro u hu; simp at hu; rcases hu with rfl | rfl <;> rfl) hlen hsz ?_; intro v10 w10 o10 g10 p10; have O10 : Hid (Bk w10 ob #[.int .i64 kd, .int .i64 (q : Int), .int .u64 (j : Int)] 40) := (O7.out.alloc _).kept g10 (fun h => W1.out ob h rfl); have c0 := O10.out.cell 0; have c1 := O10.out.cell 1; have c2 := O10.out.cell 2; simp only [List.getElem?_toArray, List.getElem?_cons_zero, List.getElem?_cons_succ] at c0 c1 c2))
      have R7' : Row 35 2 w w7 F6 V m fc := HM.out ▸ R7.out
      obtain ⟨r10, l10⟩ := R7'.snoc L7.out o10 g10 p10
      have R10 : Hid (Row 35 2 w w10 F6 v10 (m + 1) (fc ++ [.int .i64 (q : Int), .int .u64 (j : Int)])) := r10
      have L10 : Hid (St w w10 b S1 F6) := l10
      clear r10 l10 o10 g10 p10 L7 R7 R7' rown O7
      go_at_call 24
      refine (KC _).mono ?_
      rintro e' w9 ⟨rfl, b9⟩
      have L9 : Hid (St w w9 b S1 F6) := L10.out.next b9
      have R9 : Hid (Row 35 2 w w9 F6 v10 (m + 1) (fc ++ [.int .i64 (q : Int), .int .u64 (j : Int)])) := R10.out.next b9
      clear b9 L10 R10 O10 c0 c1 c2 KC
      go_wp2
      refine ⟨⟨j + 1, nn, S1, F6, sent ++ [⟨(q : Int), (j : Int)⟩], v10, by omega, by go_num, rfl, rfl, by rw [HL.out, HM.out]; omega, INV.out, L9.out, ?_⟩, by simp [RowKit.intOf]; omega⟩
      rw [HL.out, HM.out, ← HC.out]
      exact R9.out
    · -- not sent
      have f1 : (er == (0 : Int)) = false := by simp; exact her
      have INV : Hid (RowInv N S1 sent nn) := inv
      clear inv HWAYS her
      go_wp2_with fail
      go_at_call 24
      refine (KC _).mono ?_
      rintro e' w9 ⟨rfl, b9⟩
      have L9 : Hid (St w w9 b S1 F6) := L7.out.next b9
      have R9 : Hid (Row 35 2 w w9 F6 V sent.length (sent.flatMap cc)) := R7.out.next b9
      clear b9 L7 R7 O7 c0 c1 c2 KC
      go_wp2
      exact ⟨⟨j + 1, nn, S1, F6, sent, V, by omega, by go_num, rfl, rfl, by omega, INV.out, L9.out, R9.out⟩, by simp [RowKit.intOf]; omega⟩
    · -- carried
      have INV : Hid (RowInv N S1 sent (nn + 1)) := inv
      clear inv HWAYS
      go_wp2_with fail
      go_at_call 24
      refine (KC _).mono ?_
      rintro e' w9 ⟨rfl, b9⟩
      have L9 : Hid (St w w9 b S1 F6) := L7.out.next b9
      have R9 : Hid (Row 35 2 w w9 F6 V sent.length (sent.flatMap cc)) := R7.out.next b9
      have K9 : Hid (Bk w9 cb #[.int .i64 cc1.lane, .int .u64 cc1.word] 35) := K7.out.next b9
      clear b9 L7 R7 O7 K7 c0 c1 c2 KC
      obtain ⟨va, vcap, rfl, -, -, rdv⟩ := OwnK.rd R9.out.1 (by decide)
      obtain ⟨t0, t1⟩ := cc_at sent nn cc1 hat
      obtain ⟨g', o', rfl, hg', y0⟩ := rdv _ _ t0
      obtain ⟨g2, o2, t2, -, y1⟩ := rdv _ _ t1
      simp only [Option.some.injEq, Addr.mk.injEq, and_true] at t2
      obtain ⟨rfl, rfl⟩ := t2
      rw [← Nat.add_assoc] at y1
      obtain ⟨cl, cw⟩ := cc1
      simp only at y0 y1 K9
      have f1 : (nn : Int) < (sent.length : Int) := by omega
      have f2 : (0 : Int) ≤ (nn : Int) := by omega
      have y0' : ∀ n, (w9.drewN n).cell? ⟨g', o' + nn * 2, none⟩ = some (.int .i64 cl) := fun n => y0
      have y1' : ∀ n, (w9.drewN n).cell? ⟨g', o' + nn * 2 + 1, none⟩ = some (.int .u64 cw) := fun n => y1
      have z0 := fun n => (K9.out.drewN n).cell 0
      have z1 := fun n => (K9.out.drewN n).cell 1
      simp only [List.getElem?_toArray, List.getElem?_cons_zero, List.getElem?_cons_succ] at z0 z1
      clear rdv t0 t1 hat y0 y1
      obtain ⟨m, hm⟩ : ∃ m, sent.length = m := ⟨_, rfl⟩
      have HM : Hid (sent.length = m) := hm
      rw [hm] at f1 hsj hnl hlt ⊢
      clear hm
      go_wp2_with fail
      go_quiet (fail)
      have L10 : Hid (St w (w9.drewN nq) b S1 F6) := L9.out.drewN nq
      have R10 : Hid (Row 35 2 w (w9.drewN nq) F6 (.slice (some ⟨g', o', none⟩) m vcap) m (sent.flatMap cc)) := HM.out ▸ R9.out.next (dn (Below.refl _ _) nq)
      clear L9 R9 K9 y0' y1' z0 z1
      generalize w9.drewN nq = w10 at *
      go_wp2
      refine ⟨⟨j + 1, nn + 1, S1, F6, sent, _, by omega, by go_num, by go_num, rfl, by rw [HM.out]; omega, INV.out, L10.out, ?_⟩, by simp [RowKit.intOf]; omega⟩
      rw [HM.out]
      exact R10.out
    · -- nothing to carry
      have INV : Hid (RowInv N S1 sent nn) := inv
      clear inv HWAYS
      go_wp2_with fail
      go_at_call 24
      refine (KC _).mono ?_
      rintro e' w9 ⟨rfl, b9⟩
      have L9 : Hid (St w w9 b S1 F6) := L7.out.next b9
      have R9 : Hid (Row 35 2 w w9 F6 V sent.length (sent.flatMap cc)) := R7.out.next b9
      clear b9 L7 R7 O7 c0 c1 c2 KC
      obtain ⟨va, vcap, rfl, -, -, -⟩ := OwnK.rd R9.out.1 (by decide)
      obtain ⟨m, hm⟩ : ∃ m, sent.length = m := ⟨_, rfl⟩
      have HM : Hid (sent.length = m) := hm
      rw [hm] at hsj hnl hlt ⊢
      subst hlt
      clear hm
      go_wp2_with fail
      go_quiet (fail)
      have L10 : Hid (St w (w9.drewN nq) b S1 F6) := L9.out.drewN nq
      have R10 : Hid (Row 35 2 w (w9.drewN nq) F6 (.slice va nn vcap) nn (sent.flatMap cc)) := HM.out ▸ R9.out.next (dn (Below.refl _ _) nq)
      clear L9 R9
      generalize w9.drewN nq = w10 at *
      go_wp2
      refine ⟨⟨j + 1, nn, S1, F6, sent, _, by omega, by go_num, by go_num, rfl, by rw [HM.out]; omega, INV.out, L10.out, ?_⟩, by simp [RowKit.intOf]; omega⟩
      rw [HM.out]
      exact R10.out
    · -- another step
      have f1 : ((kk : Int) == (0 : Int)) = false := by simp; omega
      have f2 : ((kk : Int) == (1 : Int)) = false := by simp; omega
      have INV : Hid (RowInv N S1 sent nn) := inv
      clear inv HWAYS
      go_wp2_with fail
      go_at_call 24
      refine (KC _).mono ?_
      rintro e' w9 ⟨rfl, b9⟩
      have L9 : Hid (St w w9 b S1 F6) := L7.out.next b9
      have R9 : Hid (Row 35 2 w w9 F6 V sent.length (sent.flatMap cc)) := R7.out.next b9
      clear b9 L7 R7 O7 c0 c1 c2 KC
      go_wp2
      exact ⟨⟨j + 1, nn, S1, F6, sent, V, by omega, by go_num, rfl, rfl, by omega, INV.out, L9.out, R9.out⟩, by simp [RowKit.intOf]; omega⟩
end Go.Proofs.Ytihfekcdghmkhaa
