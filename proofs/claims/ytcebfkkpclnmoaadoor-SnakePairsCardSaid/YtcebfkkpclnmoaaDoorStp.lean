/-
  The walk of snake's Step. (Written by gen_step.py.)
-/
import Derived.Test.YtcebfkkpclnmoaaDoorGr
import Derived.Test.YtcebfkkpclnmoaaDoorBeside
namespace Go.Proofs.YtcebfkkpclnmoaaDoor
open Go.RowKit

theorem stB_not {c : Cf} {a t : Int} (h : (isN c a && isN c t) = false) : stp c a t = 0 ∧ stB c a t = false := by
  unfold stp stB
  rw [h]
  exact ⟨rfl, rfl⟩
theorem stK_yes {c : Cf} {a g : Int} {k : Nat} (h : nea c a g (stK c a g k).2 (k : Int) = true) : (stK c a g (k + 1)).1 = k ∧ (stK c a g (k + 1)).2 = lb c (bsN c a (k : Int)) := by
  simp only [stK]
  rw [if_pos h]
  exact ⟨rfl, rfl⟩
theorem stK_no {c : Cf} {a g : Int} {k : Nat} (h : nea c a g (stK c a g k).2 (k : Int) = false) : (stK c a g (k + 1)).1 = (stK c a g k).1 ∧ (stK c a g (k + 1)).2 = (stK c a g k).2 := by
  simp only [stK]
  rw [if_neg (by rw [h]; decide)]
  exact ⟨rfl, rfl⟩

set_option maxRecDepth 100000 in
set_option maxHeartbeats 1000000 in
theorem step_any (c : Cf) (a t : Int) (w : World) (hS : Steps w) : Calls Tryd.prog 15 #[cfv c, .int .i64 a, .int .i64 t] w fun e w' => e = .returned (.tuple #[.int .i64 (stp c a t), .bool (stB c a t)]) ∧ Below w.heap.size w w' := by
  have A0 : Hid (At w c (w.alloc (.cells (cfc c) 23))) := At.start w c
  have K1 := label_any c a
  have K2 := label_any c t
  have HS : Hid (Steps w) := hS
  clear hS
  cases ha : isN c a with
  | false =>
    obtain ⟨e1, e2⟩ := stB_not (c := c) (a := a) (t := t) (by rw [ha]; rfl)
    rw [e1, e2]
    rw [(pl_no ha).2.2] at K1
    clear e1 e2 ha
    generalize lb c a = la at *
    generalize lb c t = lt at *
    generalize ple c t = pt at *
    obtain ⟨cw, ch, cl, cd, cr, ci, cb, we, ca⟩ := c
    simp only [cfv, cfc] at *
    go_enter Tryd.func15, Tryd.ntmps15
    go_wp2_with fail
    go_at_call 11
    refine (K1 _).mono ?_
    rintro e v1 ⟨rfl, hb⟩
    have HA1 : Hid (At w _ v1) := A0.out.trans hb
    clear hb K1 A0
    obtain ⟨x0, x1, x2, x3, x4, x5, x6, x7, x8⟩ := HA1.out.cells
    simp only at x0 x1 x2 x3 x4 x5 x6 x7 x8
    go_wp2_with fail
    go_at_call 11
    refine (K2 _).mono ?_
    rintro e v2 ⟨rfl, hb⟩
    have HA2 : Hid (At w _ v2) := HA1.out.trans hb
    clear hb K2 HA1 x0 x1 x2 x3 x4 x5 x6 x7 x8
    go_wp2
    go_ret2
    exact ⟨rfl, HA2.out.below⟩
  | true =>
    rw [pl_yes ha] at K1
    cases ht : isN c t with
    | false =>
      obtain ⟨e1, e2⟩ := stB_not (c := c) (a := a) (t := t) (by rw [ha, ht]; rfl)
      rw [e1, e2]
      rw [(pl_no ht).2.2] at K2
      clear e1 e2 ha ht
      generalize lb c a = la at *
      generalize lb c t = lt at *
      obtain ⟨cw, ch, cl, cd, cr, ci, cb, we, ca⟩ := c
      simp only [cfv, cfc] at *
      go_enter Tryd.func15, Tryd.ntmps15
      go_wp2_with fail
      go_at_call 11
      refine (K1 _).mono ?_
      rintro e v1 ⟨rfl, hb⟩
      have HA1 : Hid (At w _ v1) := A0.out.trans hb
      clear hb K1 A0
      obtain ⟨x0, x1, x2, x3, x4, x5, x6, x7, x8⟩ := HA1.out.cells
      simp only at x0 x1 x2 x3 x4 x5 x6 x7 x8
      go_wp2_with fail
      go_at_call 11
      refine (K2 _).mono ?_
      rintro e v2 ⟨rfl, hb⟩
      have HA2 : Hid (At w _ v2) := HA1.out.trans hb
      clear hb K2 HA1 x0 x1 x2 x3 x4 x5 x6 x7 x8
      go_wp2
      go_ret2
      exact ⟨rfl, HA2.out.below⟩
    | true =>
      rw [pl_yes ht] at K2
      have e1 : stp c a t = (stK c a (lb c t) 5).1 := by unfold stp; rw [ha, ht]; rfl
      have e2 : stB c a t = true := by unfold stB; rw [ha, ht]; rfl
      rw [e1, e2]
      have S0 : (stK c a (lb c t) 0).1 = 0 ∧ (stK c a (lb c t) 0).2 = lb c a := ⟨rfl, rfl⟩
      have SY := fun k => @stK_yes c a (lb c t) k
      have SN := fun k => @stK_no c a (lb c t) k
      have NI := fun m p => @nea_iff c a (lb c t) m p
      have BE := fun (k : Nat) v h => beside_any c a (k : Int) v h
      have LA := fun n => label_any c n
      have PB := fun p h => (@step_ok c a p h).2.2.2.1
      have LR := fun p => lb_in c (bsN c a p)
      have SR := fun k => stK_in c a (lb c t) k
      have PL := fun p h => pl_yes (PB p h)
      have GR := lb_in c t
      clear e1 e2 ha ht PB
      generalize lb c t = g at *
      obtain ⟨SS, hSS⟩ : ∃ SS : Nat → Int, ∀ k, (stK c a g k).1 = SS k := ⟨fun k => (stK c a g k).1, fun _ => rfl⟩
      obtain ⟨SM, hSM⟩ : ∃ SM : Nat → Int, ∀ k, (stK c a g k).2 = SM k := ⟨fun k => (stK c a g k).2, fun _ => rfl⟩
      simp only [hSS, hSM] at *
      clear hSS hSM
      generalize nea c a g = NE at *
      generalize bsN c a = M at *
      generalize bsB c a = G at *
      generalize lb c = LB at *
      generalize ple c = PE at *
      have HSY : Hid (∀ k : Nat, NE (SM k) (k : Int) = true → SS (k + 1) = k ∧ SM (k + 1) = LB (M (k : Int))) := SY
      have HSN : Hid (∀ k : Nat, NE (SM k) (k : Int) = false → SS (k + 1) = SS k ∧ SM (k + 1) = SM k) := SN
      have HNI : Hid (∀ m p : Int, NE m p = true ↔ G p = true ∧ ((m < LB (M p) ∧ LB (M p) ≤ g) ∨ (g ≤ LB (M p) ∧ LB (M p) < m))) := NI
      have HLR : Hid (∀ p : Int, 0 ≤ LB (M p) ∧ LB (M p) < 4096) := LR
      have HSR : Hid (∀ k : Nat, 0 ≤ SS k ∧ SS k ≤ k ∧ 0 ≤ SM k ∧ SM k < 4096) := SR
      have HPL : Hid (∀ p : Int, G p = true → PE (M p) = 0) := PL
      have HS0 : Hid (SS 0 = 0 ∧ SM 0 = LB a) := S0
      clear SY SN NI LR SR PL S0
      obtain ⟨cw, ch, cl, cd, cr, ci, cb, we, ca⟩ := c
      simp only [cfv, cfc] at *
      go_enter Tryd.func15, Tryd.ntmps15
      go_wp2_with fail
      go_at_call 11
      refine (K1 _).mono ?_
      rintro e v1 ⟨rfl, hb⟩
      have HA1 : Hid (At w _ v1) := A0.out.trans hb
      clear hb K1 A0
      obtain ⟨x0, x1, x2, x3, x4, x5, x6, x7, x8⟩ := HA1.out.cells
      simp only at x0 x1 x2 x3 x4 x5 x6 x7 x8
      go_wp2_with fail
      go_at_call 11
      refine (K2 _).mono ?_
      rintro e v2 ⟨rfl, hb⟩
      have HA2 : Hid (At w _ v2) := HA1.out.trans hb
      clear hb K2 HA1 x0 x1 x2 x3 x4 x5 x6 x7 x8
      generalize LB a = la0 at *
      go_wp2_with fail
      go_loopw [8, 12, 36] (fun s8 s12 s36 wr => ∃ k : Nat, k ≤ 5 ∧ s36 = .int .i64 k ∧ s8 = .int .i64 (SM k) ∧ s12 = .int .i64 (SS k) ∧ At w ⟨cw, ch, cl, cd, cr, ci, cb, we, ca⟩ wr) (fun _ _ i _ => 5 - (RowKit.intOf i).toNat)
      case atStart => exact ⟨0, by omega, rfl, by rw [HS0.out.2], by rw [HS0.out.1], HA2.out⟩
      case round =>
        obtain ⟨k, hk, rfl, rfl, rfl, hat⟩ := hrel
        have HAT : Hid (At w ⟨cw, ch, cl, cd, cr, ci, cb, we, ca⟩ wr) := hat
        clear hat
        by_cases hlt : k < 5
        · have hltz : (k : Int) < 5 := by omega
          obtain ⟨x0, x1, x2, x3, x4, x5, x6, x7, x8⟩ := HAT.out.cells
          simp only at x0 x1 x2 x3 x4 x5 x6 x7 x8
          have K3 := BE k wr (HAT.out.steps HS.out)
          have K4 := LA (M (k : Int))
          have y1 := HSY.out k
          have y2 := HSN.out k
          have y3 := HNI.out (SM k) k
          have y4 := HPL.out k
          have y5 := HLR.out k
          have y6 := HSR.out k
          have q8 : SS (k + 1) = SS (k + 1) := rfl
          clear BE LA
          generalize hSk : SM k = m at *
          generalize hPk : SS k = s at *
          generalize LB (M (k : Int)) = L at *
          generalize PE (M (k : Int)) = pe at *
          generalize M (k : Int) = mk at *
          generalize NE m (k : Int) = ne at *
          cases hG : G (k : Int) with
          | false =>
            rw [hG] at K3 y3
            have n1 : ne = false := by
              cases ne with
              | false => rfl
              | true => have := (y3.1 rfl).1; cases this
            have q := y2 n1
            have HQ : Hid (SS (k + 1) = s ∧ SM (k + 1) = m) := q
            clear y1 y2 y3 y4 y5 y6 q n1 hG K4 hSk hPk q8
            go_wp2_with fail
            go_at_call 35
            refine K3.mono ?_
            rintro e wa ⟨rfl, hb⟩
            have HAT2 : Hid (At w ⟨cw, ch, cl, cd, cr, ci, cb, we, ca⟩ wa) := HAT.out.trans hb
            clear hb HAT K3 x0 x1 x2 x3 x4 x5 x6 x7 x8
            go_wp2
            go_roundw
            case rel => exact ⟨k + 1, by omega, by go_num, by rw [HQ.out.2], by rw [HQ.out.1], HAT2.out⟩
            case measure => simp [RowKit.intOf]; omega
          | true =>
            rw [hG] at K3 y3 y4
            rw [y4 rfl] at K4
            clear y4 hG q8
            by_cases h1 : m < L
            · by_cases h2 : L ≤ g
              · have n1 : ne = true := by
                  exact y3.2 ⟨rfl, by omega⟩
                have HQ : Hid (SS (k + 1) = k ∧ SM (k + 1) = L) := y1 n1
                clear y1 y2 y3 y6 n1 hSk hPk
                go_wp2_with fail
                go_at_call 35
                refine K3.mono ?_
                rintro e wa ⟨rfl, hb⟩
                have HAT2 : Hid (At w ⟨cw, ch, cl, cd, cr, ci, cb, we, ca⟩ wa) := HAT.out.trans hb
                clear hb HAT K3 x0 x1 x2 x3 x4 x5 x6 x7 x8
                obtain ⟨x0, x1, x2, x3, x4, x5, x6, x7, x8⟩ := HAT2.out.cells
                simp only at x0 x1 x2 x3 x4 x5 x6 x7 x8
                go_wp2_with fail
                go_at_call 11
                refine (K4 _).mono ?_
                rintro e wb ⟨rfl, hb⟩
                have HAT3 : Hid (At w ⟨cw, ch, cl, cd, cr, ci, cb, we, ca⟩ wb) := HAT2.out.trans hb
                clear hb HAT2 K4 x0 x1 x2 x3 x4 x5 x6 x7 x8
                go_wp2
                go_roundw
                case rel => exact ⟨k + 1, by omega, by go_num, by rw [HQ.out.2], by rw [HQ.out.1], HAT3.out⟩
                case measure => simp [RowKit.intOf]; omega
              · have h3 : g ≤ L := by omega
                have h4 : ¬ L < m := by omega
                have n1 : ne = false := by
                  cases ne with
                  | false => rfl
                  | true => have := (y3.1 rfl).2; omega
                have HQ : Hid (SS (k + 1) = s ∧ SM (k + 1) = m) := y2 n1
                clear y1 y2 y3 y6 n1 hSk hPk
                go_wp2_with fail
                go_at_call 35
                refine K3.mono ?_
                rintro e wa ⟨rfl, hb⟩
                have HAT2 : Hid (At w ⟨cw, ch, cl, cd, cr, ci, cb, we, ca⟩ wa) := HAT.out.trans hb
                clear hb HAT K3 x0 x1 x2 x3 x4 x5 x6 x7 x8
                obtain ⟨x0, x1, x2, x3, x4, x5, x6, x7, x8⟩ := HAT2.out.cells
                simp only at x0 x1 x2 x3 x4 x5 x6 x7 x8
                go_wp2_with fail
                go_at_call 11
                refine (K4 _).mono ?_
                rintro e wb ⟨rfl, hb⟩
                have HAT3 : Hid (At w ⟨cw, ch, cl, cd, cr, ci, cb, we, ca⟩ wb) := HAT2.out.trans hb
                clear hb HAT2 K4 x0 x1 x2 x3 x4 x5 x6 x7 x8
                go_wp2
                go_roundw
                case rel => exact ⟨k + 1, by omega, by go_num, by rw [HQ.out.2], by rw [HQ.out.1], HAT3.out⟩
                case measure => simp [RowKit.intOf]; omega
            · by_cases h2 : g ≤ L
              · by_cases h3 : L < m
                · have n1 : ne = true := by
                    exact y3.2 ⟨rfl, by omega⟩
                  have HQ : Hid (SS (k + 1) = k ∧ SM (k + 1) = L) := y1 n1
                  clear y1 y2 y3 y6 n1 hSk hPk
                  go_wp2_with fail
                  go_at_call 35
                  refine K3.mono ?_
                  rintro e wa ⟨rfl, hb⟩
                  have HAT2 : Hid (At w ⟨cw, ch, cl, cd, cr, ci, cb, we, ca⟩ wa) := HAT.out.trans hb
                  clear hb HAT K3 x0 x1 x2 x3 x4 x5 x6 x7 x8
                  obtain ⟨x0, x1, x2, x3, x4, x5, x6, x7, x8⟩ := HAT2.out.cells
                  simp only at x0 x1 x2 x3 x4 x5 x6 x7 x8
                  go_wp2_with fail
                  go_at_call 11
                  refine (K4 _).mono ?_
                  rintro e wb ⟨rfl, hb⟩
                  have HAT3 : Hid (At w ⟨cw, ch, cl, cd, cr, ci, cb, we, ca⟩ wb) := HAT2.out.trans hb
                  clear hb HAT2 K4 x0 x1 x2 x3 x4 x5 x6 x7 x8
                  go_wp2
                  go_roundw
                  case rel => exact ⟨k + 1, by omega, by go_num, by rw [HQ.out.2], by rw [HQ.out.1], HAT3.out⟩
                  case measure => simp [RowKit.intOf]; omega
                · have n1 : ne = false := by
                    cases ne with
                    | false => rfl
                    | true => have := (y3.1 rfl).2; omega
                  have HQ : Hid (SS (k + 1) = s ∧ SM (k + 1) = m) := y2 n1
                  clear y1 y2 y3 y6 n1 hSk hPk
                  go_wp2_with fail
                  go_at_call 35
                  refine K3.mono ?_
                  rintro e wa ⟨rfl, hb⟩
                  have HAT2 : Hid (At w ⟨cw, ch, cl, cd, cr, ci, cb, we, ca⟩ wa) := HAT.out.trans hb
                  clear hb HAT K3 x0 x1 x2 x3 x4 x5 x6 x7 x8
                  obtain ⟨x0, x1, x2, x3, x4, x5, x6, x7, x8⟩ := HAT2.out.cells
                  simp only at x0 x1 x2 x3 x4 x5 x6 x7 x8
                  go_wp2_with fail
                  go_at_call 11
                  refine (K4 _).mono ?_
                  rintro e wb ⟨rfl, hb⟩
                  have HAT3 : Hid (At w ⟨cw, ch, cl, cd, cr, ci, cb, we, ca⟩ wb) := HAT2.out.trans hb
                  clear hb HAT2 K4 x0 x1 x2 x3 x4 x5 x6 x7 x8
                  go_wp2
                  go_roundw
                  case rel => exact ⟨k + 1, by omega, by go_num, by rw [HQ.out.2], by rw [HQ.out.1], HAT3.out⟩
                  case measure => simp [RowKit.intOf]; omega
              · have n1 : ne = false := by
                  cases ne with
                  | false => rfl
                  | true => have := (y3.1 rfl).2; omega
                have HQ : Hid (SS (k + 1) = s ∧ SM (k + 1) = m) := y2 n1
                clear y1 y2 y3 y6 n1 hSk hPk
                go_wp2_with fail
                go_at_call 35
                refine K3.mono ?_
                rintro e wa ⟨rfl, hb⟩
                have HAT2 : Hid (At w ⟨cw, ch, cl, cd, cr, ci, cb, we, ca⟩ wa) := HAT.out.trans hb
                clear hb HAT K3 x0 x1 x2 x3 x4 x5 x6 x7 x8
                obtain ⟨x0, x1, x2, x3, x4, x5, x6, x7, x8⟩ := HAT2.out.cells
                simp only at x0 x1 x2 x3 x4 x5 x6 x7 x8
                go_wp2_with fail
                go_at_call 11
                refine (K4 _).mono ?_
                rintro e wb ⟨rfl, hb⟩
                have HAT3 : Hid (At w ⟨cw, ch, cl, cd, cr, ci, cb, we, ca⟩ wb) := HAT2.out.trans hb
                clear hb HAT2 K4 x0 x1 x2 x3 x4 x5 x6 x7 x8
                go_wp2
                go_roundw
                case rel => exact ⟨k + 1, by omega, by go_num, by rw [HQ.out.2], by rw [HQ.out.1], HAT3.out⟩
                case measure => simp [RowKit.intOf]; omega
        · have hltz : ¬ (k : Int) < 5 := by omega
          obtain rfl : k = 5 := by omega
          go_wp2
          go_ret2
          exact ⟨rfl, HAT.out.below⟩
end Go.Proofs.YtcebfkkpclnmoaaDoor
