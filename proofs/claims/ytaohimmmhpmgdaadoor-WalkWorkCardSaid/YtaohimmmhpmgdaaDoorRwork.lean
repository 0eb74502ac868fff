/-
  The walk of the document's Work, at few and small numbers.
-/
import Derived.Test.YtaohimmmhpmgdaaDoorWork2
namespace Go.Proofs.YtaohimmmhpmgdaaDoor
open Go.RowKit

/-- So many times a number. -/
def tm (x : Int) (j : Nat) : Int := (j : Int) * x
theorem tm_zero (x : Int) : tm x 0 = 0 := by unfold tm; simp
theorem tm_succ (x : Int) (j : Nat) : tm x (j + 1) = tm x j + x := by unfold tm; rw [Int.natCast_succ, Int.add_mul, Int.one_mul]
theorem tm_le {x : Int} (h0 : -400 ≤ x) (h1 : x ≤ 400) : ∀ j : Nat, -(400 * (j : Int)) ≤ tm x j ∧ tm x j ≤ 400 * (j : Int) := by
  intro j
  induction j with
  | zero => rw [tm_zero]; omega
  | succ j ih => rw [tm_succ]; omega

set_option maxRecDepth 100000 in
set_option maxHeartbeats 4000000 in
theorem rwork_any (l : List Int) (b : Int) (s : Option Addr) (cap : Nat) (w : World) (hf : Few l) (hr : RdA w s (vi l)) :
    Calls Tryd.prog 13 #[.slice s l.length cap, .int .i64 b] w fun e w' => e = .returned (.int .i64 (wrk l b)) ∧ Dr w w' := by
  by_cases hn0 : l.length = 0
  · rw [wrk_no (by rw [List.eq_nil_of_length_eq_zero hn0]; exact okH_nil b), hn0]
    clear hf hr hn0
    go_enter Tryd.func13, Tryd.ntmps13
    go_wp2
    go_ret
    exact ⟨rfl, Dr.refl _⟩
  have hnz : ¬ (l.length : Int) = 0 := by omega
  by_cases hb0 : b < 0
  · rw [wrk_no (okH_out (Or.inl hb0))]
    clear hf hr hn0
    generalize l.length = n at *
    go_enter Tryd.func13, Tryd.ntmps13
    go_wp2
    go_ret
    exact ⟨rfl, Dr.refl _⟩
  by_cases hb1 : 64 < b
  · rw [wrk_no (okH_out (Or.inr hb1))]
    clear hf hr hn0
    generalize l.length = n at *
    go_enter Tryd.func13, Tryd.ntmps13
    go_wp2
    go_ret
    exact ⟨rfl, Dr.refl _⟩
  have VA : Hid (∀ v, Dr w v → ∀ k, k < l.length → ∃ g o, s = some ⟨g, o, none⟩ ∧ v.cell? ⟨g, o + k, none⟩ = some (.int .i64 (l.getD k 0)) ∧ (∀ i, i < l.length → v.cell? ⟨g, o + i, none⟩ = some (.int .i64 (l.getD i 0)))) := show _ from fun v hv k hk => by
    obtain ⟨g, o, e, _, c⟩ := hr.num hk
    refine ⟨g, o, e, (hv.cell _).trans c, fun i hi => ?_⟩
    obtain ⟨g', o', e', _, c'⟩ := hr.num hi
    rw [e] at e'
    simp only [Option.some.injEq, Addr.mk.injEq] at e'
    obtain ⟨rfl, rfl, _⟩ := e'
    exact (hv.cell _).trans c'
  have NG : Hid (∀ k, k < l.length → l.getD k 0 < 0 → wrk l b = -1) := show _ from fun k hk h => wrk_no (okH_neg hk h)
  have FL : Hid (∀ k, k + 1 < l.length → l.getD (k + 1) 0 < l.getD k 0 → wrk l b = -1) := show _ from fun k hk h => wrk_no (okH_fall hk h)
  have hw : okW l.length b = true := (okW_iff _ _).2 (by omega)
  have KW : ∀ v, Calls Tryd.prog 11 #[.int .i64 (l.length : Int), .int .i64 b] v fun e w' => e = .returned (.int .i64 ((l.length : Int) + tl b)) ∧ v = w' := fun v => by
    have := rwords_any (l.length : Int) b v (by have := hf.1; omega)
    rw [wds_yes hw] at this
    exact this
  have YES : Hid ((∀ k, k < l.length → 0 ≤ l.getD k 0 ∧ (∀ i, i + 1 = k → l.getD i 0 ≤ l.getD k 0)) → wrk l b = tl b * mv (lstH l) + smK l l.length + 2 * lstH l + 2 * (l.length : Int)) := show _ from fun h => wrk_yes ((okH_iff _ _).2 ⟨by omega, by omega, by omega, (h 0 (by omega)).1, fun i hi => (h (i + 1) hi).2 i rfl⟩)
  have LA := hf.last
  have ht := tl_in (b := b) (by omega) (by omega)
  obtain ⟨t, ht0, ht1⟩ : ∃ t : Nat, tl b = t ∧ t ≤ 11 := ⟨(tl b).toNat, by omega, by omega⟩
  have mvb : -298 ≤ mv (lstH l) ∧ mv (lstH l) ≤ 302 := by unfold mv; omega
  have TL := tm_le (x := mv (lstH l)) (by omega) (by omega)
  have TS := tm_succ (mv (lstH l))
  have T0 := tm_zero (mv (lstH l))
  have TE : tl b * mv (lstH l) = tm (mv (lstH l)) t := by unfold tm; rw [ht0]
  have SB := hf.sum
  have SS := smK_succ l
  have S0 := smK_zero l
  have EL := hf.2
  have hl := hf.1
  have HL : Hid (lstH l = l.getD (l.length - 1) 0) := show _ from rfl
  obtain ⟨AK, hAK⟩ : ∃ AK : Nat → Int, ∀ k, smK l k + 2 * (k : Int) = AK k := ⟨fun k => smK l k + 2 * (k : Int), fun _ => rfl⟩
  have A0 : Hid (AK 0 = 0) := show _ from by rw [← hAK, S0]; rfl
  have AS : Hid (∀ k, k < l.length → AK (k + 1) = AK k + (4 + 3 * l.getD k 0)) := show _ from fun k hk => by
    rw [← hAK, ← hAK, SS k hk]
    unfold mv
    omega
  have AB : Hid (∀ k, k ≤ l.length → -200000 ≤ AK k ∧ AK k ≤ 200000) := show _ from fun k hk => by
    rw [← hAK]
    have := SB k hk
    omega
  rw [TE] at YES
  obtain ⟨TM, hTM⟩ : ∃ TM : Nat → Int, ∀ j, tm (mv (lstH l)) j = TM j := ⟨fun j => tm (mv (lstH l)) j, fun _ => rfl⟩
  simp only [hTM] at *
  have YES2 : Hid ((∀ k, k < l.length → 0 ≤ l.getD k 0 ∧ (∀ i, i + 1 = k → l.getD i 0 ≤ l.getD k 0)) → wrk l b = TM t + AK l.length + 2 * lstH l) := show _ from fun h => by
    rw [YES.out h, ← hAK]
    omega
  have HTS : Hid (∀ j, TM (j + 1) = TM j + (2 + 3 * lstH l)) := TS
  have HT0 : Hid (TM 0 = 0) := T0
  have HTL : Hid (∀ j : Nat, -(400 * (j : Int)) ≤ TM j ∧ TM j ≤ 400 * (j : Int)) := TL
  have HEL : Hid (∀ k, -100 ≤ l.getD k 0 ∧ l.getD k 0 ≤ 100) := EL
  rw [ht0] at KW
  clear YES SB SS S0 hAK TE hTM TS T0 TL mvb hf hr hw EL ht0
  obtain ⟨R, hR⟩ : ∃ R, wrk l b = R := ⟨_, rfl⟩
  simp only [hR] at *
  clear hR
  obtain ⟨LD, hLD⟩ : ∃ LD : Nat → Int, ∀ k, l.getD k 0 = LD k := ⟨fun k => l.getD k 0, fun _ => rfl⟩
  simp only [hLD] at *
  clear hLD
  generalize lstH l = L at *
  generalize l.length = n at *
  have n0 : 0 < n := by omega
  obtain ⟨n1, hn1⟩ : ∃ n1, n - 1 = n1 := ⟨_, rfl⟩
  rw [hn1] at HL
  have e0 : IntKind.i64.wrap ((n : Int) - 1) = (n1 : Int) := by rw [IntWalk.i64_in _ (by omega)]; omega
  have n3 : n1 < n := by omega
  clear hn1 ht hn0
  go_enter Tryd.func13, Tryd.ntmps13
  go_wp2_with fail
  go_loopw [5] (fun i wr => ∃ k : Nat, k ≤ n ∧ i = .int .i64 k ∧ Dr w wr ∧ Hid (∀ j, j < k → 0 ≤ LD j ∧ (∀ i, i + 1 = j → LD i ≤ LD j))) (fun i _ => n - (RowKit.intOf i).toNat)
  case atStart => exact ⟨0, Nat.zero_le _, rfl, Dr.refl _, fun j hj => absurd hj (Nat.not_lt_zero _)⟩
  case round =>
    obtain ⟨k, hk, rfl, hd, HA⟩ := hrel
    have HD : Hid (Dr w wr) := hd
    by_cases hlt : k < n
    · have h1 : (k : Int) < (n : Int) := by omega
      have h2 : (0 : Int) ≤ k := by omega
      obtain ⟨g, o, rfl, c0, cA⟩ := VA.out wr hd k hlt
      have ng := NG.out k hlt
      clear hd VA HL HEL HTL HT0 HTS A0 AS AB YES2 KW NG
      by_cases hneg : LD k < 0
      · obtain rfl := ng hneg
        have c1 : ∀ m, (wr.drewN m).cell? ⟨g, o + k, none⟩ = some (.int .i64 (LD k)) := fun m => c0
        clear ng c0 cA FL HA
        generalize LD k = x at *
        go_wp2_with fail
        refine wp_region_quiet (C := fun w' => ∃ n, w' = wr.drewN n) (by kernel_rfl) (by kernel_rfl) ⟨1, rfl⟩ ?_
        repeat (first | go_big_quiet_skip | quiet_step (fail))
        refine wpQuiet_nil ?_
        intro u4 hw'
        obtain ⟨nq, rfl⟩ := hw'
        go_wp2
        go_ret
        exact ⟨rfl, HD.out.more _⟩
      · have h0k : 0 ≤ LD k := by omega
        have HA2 : Hid ((∀ i, i + 1 = k → LD i ≤ LD k) → ∀ j, j < k + 1 → 0 ≤ LD j ∧ (∀ i, i + 1 = j → LD i ≤ LD j)) := show _ from fun h j hj => by
          by_cases e : j = k
          · subst e; exact ⟨h0k, h⟩
          · exact HA.out j (by omega)
        cases k with
        | zero =>
          have c1 : ∀ m, (wr.drewN m).cell? ⟨g, o, none⟩ = some (.int .i64 (LD 0)) := fun m => c0
          have HA3 := HA2.out (fun i hi => by omega)
          have H3 : Hid (∀ j, j < 0 + 1 → 0 ≤ LD j ∧ (∀ i, i + 1 = j → LD i ≤ LD j)) := HA3
          clear ng c0 cA FL HA HA2 h2 h0k HA3
          generalize LD 0 = x at *
          go_wp2_with fail
          refine wp_region_quiet (C := fun w' => ∃ n, w' = wr.drewN n) (by kernel_rfl) (by kernel_rfl) ⟨1, rfl⟩ ?_
          repeat (first | go_big_quiet_skip | quiet_step (fail))
          refine wpQuiet_nil ?_
          intro u4 hw'
          obtain ⟨nq, rfl⟩ := hw'
          go_wp2
          go_roundw
          case rel => exact ⟨0 + 1, by omega, by go_num, HD.out.more _, H3.out⟩
          case measure => simp [RowKit.intOf]; omega
        | succ k =>
          have fl := FL.out k (by omega)
          have c2 := cA k (by omega)
          generalize hi1 : k + 1 = i1 at *
          have c1 : ∀ m, (wr.drewN m).cell? ⟨g, o + i1, none⟩ = some (.int .i64 (LD i1)) := fun m => c0
          have c2' : ∀ m, (wr.drewN m).cell? ⟨g, o + k, none⟩ = some (.int .i64 (LD k)) := fun m => c2
          have p1 : (0 : Int) < (i1 : Int) := by omega
          have p0 : 0 < i1 := by omega
          have p3 : (k : Int) < (n : Int) := by omega
          have p4 : IntKind.i64.wrap ((i1 : Int) - 1) = (k : Int) := by rw [IntWalk.i64_in _ (by omega)]; omega
          have p5 : (0 : Int) ≤ (k : Int) := by omega
          have HA3 : Hid (LD k ≤ LD i1 → ∀ j, j < i1 + 1 → 0 ≤ LD j ∧ (∀ i, i + 1 = j → LD i ≤ LD j)) := show _ from fun h => HA2.out (fun i hi => by
            obtain rfl : i = k := by omega
            exact h)
          clear c0 c2 cA FL HA HA2 ng hi1
          generalize LD k = y at *
          generalize LD i1 = x at *
          by_cases hxy : x < y
          · obtain rfl := fl hxy
            clear fl HA3
            go_wp2_with fail
            refine wp_region_quiet (C := fun w' => ∃ n, w' = wr.drewN n) (by kernel_rfl) (by kernel_rfl) ⟨1, rfl⟩ ?_
            repeat (first | go_big_quiet_skip | quiet_step (fail))
            refine wpQuiet_nil ?_
            intro u4 hw'
            obtain ⟨nq, rfl⟩ := hw'
            go_wp2
            go_ret
            exact ⟨rfl, HD.out.more _⟩
          · have HA4 := HA3.out (by omega)
            have H3 : Hid (∀ j, j < i1 + 1 → 0 ≤ LD j ∧ (∀ i, i + 1 = j → LD i ≤ LD j)) := HA4
            clear fl HA3 HA4
            go_wp2_with fail
            refine wp_region_quiet (C := fun w' => ∃ n, w' = wr.drewN n) (by kernel_rfl) (by kernel_rfl) ⟨1, rfl⟩ ?_
            repeat (first | go_big_quiet_skip | quiet_step (fail))
            refine wpQuiet_nil ?_
            intro u4 hw'
            obtain ⟨nq, rfl⟩ := hw'
            go_wp2
            go_roundw
            case rel => exact ⟨i1 + 1, by omega, by go_num, HD.out.more _, H3.out⟩
            case measure => simp [RowKit.intOf]; omega
    · obtain rfl : k = n := by omega
      have h1 : ¬ (k : Int) < (k : Int) := by omega
      have hR := YES2.out HA.out
      have HRR : Hid (R = TM t + AK k + 2 * L) := hR
      obtain ⟨g, o, rfl, c0, cA⟩ := VA.out wr hd n1 n3
      rw [← HL.out] at c0
      have n4 : (n1 : Int) < (k : Int) := by omega
      clear NG FL hR HA YES2 cA hd
      go_wp2_with fail
      go_loopw [7, 8] (fun x i wr => ∃ j : Nat, j ≤ k ∧ i = .int .i64 j ∧ x = .int .i64 (AK j) ∧ Dr w wr) (fun _ i _ => k - (RowKit.intOf i).toNat)
      case atStart => exact ⟨0, Nat.zero_le _, rfl, by rw [A0.out], HD.out⟩
      case round =>
        obtain ⟨j, hj, rfl, rfl, hd⟩ := hrel
        have HD2 : Hid (Dr w wr) := hd
        clear HD c0
        by_cases hlt2 : j < k
        · have j1 : (j : Int) < (k : Int) := by omega
          have j2 : (0 : Int) ≤ j := by omega
          obtain ⟨_, _, e', c1, cZ⟩ := VA.out wr hd j hlt2
          clear cZ
          simp only [Option.some.injEq, Addr.mk.injEq] at e'
          obtain ⟨rfl, rfl, _⟩ := e'
          have r1 := AS.out j hlt2
          have r2 := AB.out j hj
          have r3 := HEL.out j
          obtain ⟨x, hx⟩ : ∃ x, LD j = x := ⟨_, rfl⟩
          obtain ⟨q, hq⟩ : ∃ q, AK j = q := ⟨_, rfl⟩
          rw [hx] at c1 r1 r3
          rw [hq] at r1 r2 ⊢
          have HY : Hid (AK (j + 1) = q + (4 + 3 * x)) := r1
          obtain ⟨b1, b2⟩ := r2
          obtain ⟨b3, b4⟩ := r3
          clear r1 hd hx hq VA HEL AS AB KW
          go_wp2
          go_roundw
          case rel => exact ⟨j + 1, by omega, by go_num, congrArg _ (by rw [HY.out]; omega), HD2.out⟩
          case measure => simp [RowKit.intOf]; omega
        · obtain rfl : j = k := by omega
          have j1 : ¬ (j : Int) < (j : Int) := by omega
          clear hd VA AS HEL
          go_wp2_with fail
          go_loopw [7, 9] (fun x i wr => ∃ m : Nat, m ≤ t ∧ i = .int .i64 ((j : Int) + m) ∧ x = .int .i64 (AK j + TM m) ∧ Dr w wr) (fun _ i _ => (j + t) - (RowKit.intOf i).toNat)
          case atStart => exact ⟨0, Nat.zero_le _, by simp, by rw [HT0.out, Int.add_zero], HD2.out⟩
          case round =>
            obtain ⟨m, hm, rfl, rfl, hd⟩ := hrel
            have HD3 : Hid (Dr w wr) := hd
            clear hd HD2
            have KW := KW wr
            by_cases hlt3 : m < t
            · obtain ⟨i0, hi0⟩ : ∃ i0, (j : Int) + m = i0 := ⟨_, rfl⟩
              obtain ⟨W, hW⟩ : ∃ W, (j : Int) + t = W := ⟨_, rfl⟩
              rw [hW] at KW
              rw [hi0]
              have b1 : i0 < W := by omega
              have b2 : 0 ≤ i0 := by omega
              have b3 : i0 ≤ 1000 := by omega
              have r1 := HTS.out m
              have r2 := HTL.out m
              have r3 := AB.out j (Nat.le_refl _)
              obtain ⟨q, hq⟩ : ∃ q, AK j + TM m = q := ⟨_, rfl⟩
              rw [hq]
              have b4 : -1000000 ≤ q := by omega
              have b5 : q ≤ 1000000 := by omega
              obtain ⟨b6, b7⟩ := LA
              have HY : Hid (AK j + TM (m + 1) = q + (2 + 3 * L)) := by unfold Hid; rw [r1]; omega
              have HI2 : Hid ((j : Int) + ((m + 1 : Nat) : Int) = i0 + 1) := by unfold Hid; omega
              have MEA : Hid (j + t - (i0 + 1).toNat < j + t - i0.toNat) := by unfold Hid; omega
              clear r1 r2 r3 hq hi0 hW AB HTS HTL
              go_wp2_with fail
              go_at_call 11
              refine KW.mono ?_
              rintro e v1 ⟨rfl, rfl⟩
              go_wp2
              go_roundw
              case rel => exact ⟨m + 1, by omega, by rw [HI2.out], congrArg _ (by rw [HY.out]; omega), HD3.out⟩
              case measure => exact MEA.out
            · obtain rfl : m = t := by omega
              have r2 := HTL.out m
              have r3 := AB.out j (Nat.le_refl _)
              obtain ⟨q, hq⟩ : ∃ q, AK j + TM m = q := ⟨_, rfl⟩
              rw [hq]
              have b4 : -1000000 ≤ q := by omega
              have b5 : q ≤ 1000000 := by omega
              obtain ⟨b6, b7⟩ := LA
              have HQ : Hid (R = q + 2 * L) := by unfold Hid; rw [HRR.out]; omega
              obtain ⟨W, hW⟩ : ∃ W, (j : Int) + m = W := ⟨_, rfl⟩
              rw [hW] at KW ⊢
              clear r2 r3 hq hW AB HTS HTL HRR
              go_wp2_with fail
              go_at_call 11
              refine KW.mono ?_
              rintro e v1 ⟨rfl, rfl⟩
              go_wp2
              go_ret
              exact ⟨ret_int (by rw [HQ.out]), HD3.out⟩
end Go.Proofs.YtaohimmmhpmgdaaDoor
