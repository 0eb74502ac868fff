/-
 The walk of the document's Step. (Written by gen_rstp.py.)
-/
import Derived.Test.YtmmegmonmilkcaaGreatDoorRlab
import Derived.Test.YtmmegmonmilkcaaGreatDoorRbeside
namespace Go.Proofs.YtmmegmonmilkcaaGreatDoor.G
open Go.RowKit
set_option maxRecDepth 100000 in
set_option maxHeartbeats 1000000 in
theorem rstep_any (c : Cf) (a t : Int) (w : World) : Calls Tryz.prog 49 #[cfv c, .int .i64 a, .int .i64 t] w fun e w' => e = .returned (.tuple #[.int .i64 (stp c a t), .bool (stB c a t)]) ∧ Below w.heap.size w w' := by
 have A0 : Hid (At w c (w.alloc (.cells (cfc c) 23))) := At.start w c
 have K1 := ris_any c a
 have K2 := ris_any c t
 cases ha : isN c a with
 | false =>
  obtain ⟨e1, e2⟩ := stB_not (c := c) (a := a) (t := t) (by rw [ha]; rfl)
  rw [e1, e2]
  rw [ha] at K1
  clear e1 e2 ha K2
  obtain ⟨cw, ch, cl, cd, cr, ci, cb, we, ca⟩ := c
  simp only [cfv, cfc] at *
  go_enter Tryz.func49, Tryz.ntmps49
  go_wp2_with fail
  go_at_call 34
  refine (K1 _).mono ?_
  rintro e v1 ⟨rfl, hb⟩
  have HA1 : Hid (At w _ v1) := A0.out.trans hb
  clear hb K1 
  go_wp2
  go_ret2
  exact ⟨rfl, HA1.out.below⟩
 | true =>
  rw [ha] at K1
  cases ht : isN c t with
  | false =>
   obtain ⟨e1, e2⟩ := stB_not (c := c) (a := a) (t := t) (by rw [ha, ht]; rfl)
   rw [e1, e2]
   rw [ht] at K2
   clear e1 e2 ha ht
   obtain ⟨cw, ch, cl, cd, cr, ci, cb, we, ca⟩ := c
   simp only [cfv, cfc] at *
   go_enter Tryz.func49, Tryz.ntmps49
   go_wp2_with fail
   go_at_call 34
   refine (K1 _).mono ?_
   rintro e v1 ⟨rfl, hb⟩
   have HA1 : Hid (At w _ v1) := A0.out.trans hb
   clear hb K1 
   obtain ⟨x0, x1, x2, x3, x4, x5, x6, x7, x8⟩ := HA1.out.cells
   simp only at x0 x1 x2 x3 x4 x5 x6 x7 x8
   go_wp2_with fail
   go_at_call 34
   refine (K2 _).mono ?_
   rintro e v2 ⟨rfl, hb⟩
   have HA2 : Hid (At w _ v2) := HA1.out.trans hb
   clear hb K2 HA1 x0 x1 x2 x3 x4 x5 x6 x7 x8 
   go_wp2
   go_ret2
   exact ⟨rfl, HA2.out.below⟩
  | true =>
   rw [ht] at K2
   have K3 := of_any c a
   have K4 := of_any c t
   have e1 : stp c a t = (stK c a (lb c t) 5).1 := by unfold stp; rw [ha, ht]; rfl
   have e2 : stB c a t = true := by unfold stB; rw [ha, ht]; rfl
   rw [e1, e2]
   have S0 : (stK c a (lb c t) 1).1 = 0 ∧ (stK c a (lb c t) 1).2 = lb c a := by rw [stK_one ha]; exact ⟨rfl, rfl⟩
   have SY := fun k => @stK_yes c a (lb c t) k
   have SN := fun k => @stK_no c a (lb c t) k
   have NI := fun m p => @nea_iff c a (lb c t) m p
   have BE := fun (k : Nat) v => rbeside_any c a (k : Int) v
   have LA := fun n => of_any c n
   have LR := fun p => lb_in c (bsN c a p)
   have SR := fun k => stK_in c a (lb c t) k
   have GR := lb_in c t
   clear e1 e2 ha ht
   generalize lb c t = g at *
   obtain ⟨SS, hSS⟩ : ∃ SS : Nat → Int, ∀ k, (stK c a g k).1 = SS k := ⟨fun k => (stK c a g k).1, fun _ => rfl⟩
   obtain ⟨SM, hSM⟩ : ∃ SM : Nat → Int, ∀ k, (stK c a g k).2 = SM k := ⟨fun k => (stK c a g k).2, fun _ => rfl⟩
   simp only [hSS, hSM] at *
   clear hSS hSM
   generalize nea c a g = NE at *
   generalize bsN c a = M at *
   generalize bsB c a = G at *
   generalize lb c = LB at *
   have HSY : Hid (∀ k : Nat, NE (SM k) (k : Int) = true → SS (k + 1) = k ∧ SM (k + 1) = LB (M (k : Int))) := SY
   have HSN : Hid (∀ k : Nat, NE (SM k) (k : Int) = false → SS (k + 1) = SS k ∧ SM (k + 1) = SM k) := SN
   have HNI : Hid (∀ m p : Int, NE m p = true ↔ G p = true ∧ ((m < LB (M p) ∧ LB (M p) ≤ g) ∨ (g ≤ LB (M p) ∧ LB (M p) < m))) := NI
   have HLR : Hid (∀ p : Int, 0 ≤ LB (M p) ∧ LB (M p) < 4096) := LR
   have HSR : Hid (∀ k : Nat, 0 ≤ SS k ∧ SS k ≤ k ∧ 0 ≤ SM k ∧ SM k < 4096) := SR
   have HS0 : Hid (SS 1 = 0 ∧ SM 1 = LB a) := S0
   clear SY SN NI LR SR S0
   obtain ⟨cw, ch, cl, cd, cr, ci, cb, we, ca⟩ := c
   simp only [cfv, cfc] at *
   go_enter Tryz.func49, Tryz.ntmps49
   go_wp2_with fail
   go_at_call 34
   refine (K1 _).mono ?_
   rintro e v1 ⟨rfl, hb⟩
   have HA1 : Hid (At w _ v1) := A0.out.trans hb
   clear hb K1 
   obtain ⟨x0, x1, x2, x3, x4, x5, x6, x7, x8⟩ := HA1.out.cells
   simp only at x0 x1 x2 x3 x4 x5 x6 x7 x8
   go_wp2_with fail
   go_at_call 34
   refine (K2 _).mono ?_
   rintro e v2 ⟨rfl, hb⟩
   have HA2 : Hid (At w _ v2) := HA1.out.trans hb
   clear hb K2 HA1 x0 x1 x2 x3 x4 x5 x6 x7 x8 
   obtain ⟨x0, x1, x2, x3, x4, x5, x6, x7, x8⟩ := HA2.out.cells
   simp only at x0 x1 x2 x3 x4 x5 x6 x7 x8
   go_wp2_with fail
   go_at_call 88
   refine (K3 _).mono ?_
   rintro e v3 ⟨rfl, hb⟩
   have HA3 : Hid (At w _ v3) := HA2.out.trans hb
   clear hb K3 HA2 x0 x1 x2 x3 x4 x5 x6 x7 x8 
   obtain ⟨x0, x1, x2, x3, x4, x5, x6, x7, x8⟩ := HA3.out.cells
   simp only at x0 x1 x2 x3 x4 x5 x6 x7 x8
   go_wp2_with fail
   go_at_call 88
   refine (K4 _).mono ?_
   rintro e v4 ⟨rfl, hb⟩
   have HA4 : Hid (At w _ v4) := HA3.out.trans hb
   clear hb K4 HA3 x0 x1 x2 x3 x4 x5 x6 x7 x8 
   generalize LB a = la0 at *
   go_wp2_with fail
   go_loopw [8, 9, 11] (fun s8 s9 s11 wr => ∃ k : Nat, 1 ≤ k ∧ k ≤ 5 ∧ s11 = .int .i64 k ∧ s9 = .int .i64 (SM k) ∧ s8 = .int .i64 (SS k) ∧ At w ⟨cw, ch, cl, cd, cr, ci, cb, we, ca⟩ wr) (fun _ _ i _ => 5 - (RowKit.intOf i).toNat)
   case atStart => exact ⟨1, by omega, by omega, rfl, by rw [HS0.out.2], by rw [HS0.out.1], HA4.out⟩
   case round =>
    obtain ⟨k, hk1, hk, rfl, rfl, rfl, hat⟩ := hrel
    have HAT : Hid (At w ⟨cw, ch, cl, cd, cr, ci, cb, we, ca⟩ wr) := hat
    clear hat
    by_cases hlt : k < 5
    ·have hltz : (k : Int) ≤ 4 := by omega
     obtain ⟨x0, x1, x2, x3, x4, x5, x6, x7, x8⟩ := HAT.out.cells
     simp only at x0 x1 x2 x3 x4 x5 x6 x7 x8
     have K5 := BE k wr
     have K6 := LA (M (k : Int))
     have y1 := HSY.out k
     have y2 := HSN.out k
     have y3 := HNI.out (SM k) k
     have y5 := HLR.out k
     have y6 := HSR.out k
     clear BE LA
     generalize hSk : SM k = m at *
     generalize hPk : SS k = s at *
     generalize LB (M (k : Int)) = L at *
     generalize M (k : Int) = mk at *
     generalize NE m (k : Int) = ne at *
     cases hG : G (k : Int) with
     | false =>
      rw [hG] at K5 y3
      have n1 : ne = false := by
       cases ne with
       | false => rfl
       | true => have := (y3.1 rfl).1; cases this
      have HQ : Hid (SS (k + 1) = s ∧ SM (k + 1) = m) := y2 n1
      clear y1 y2 y3 y5 y6 n1 hG K6 hSk hPk
      go_wp2_with fail
      go_at_call 89
      refine (K5).mono ?_
      rintro e wa ⟨rfl, hb⟩
      have HB1 : Hid (At w _ wa) := HAT.out.trans hb
      clear hb K5 HAT x0 x1 x2 x3 x4 x5 x6 x7 x8 
      go_wp2
      go_roundw
      case rel => exact ⟨k + 1, by omega, by omega, by go_num, by rw [HQ.out.2], by rw [HQ.out.1], HB1.out⟩
      case measure => simp [RowKit.intOf]; omega
     | true =>
      rw [hG] at K5 y3
      clear hG
      by_cases h1 : m < g
      ·have h5 : ¬ g < m := by omega
       by_cases h2 : L ≤ g
       ·by_cases h3 : m < L
        ·have n1 : ne = true := by
          exact y3.2 ⟨rfl, by omega⟩
         have HQ : Hid (SS (k + 1) = k ∧ SM (k + 1) = L) := y1 n1
         have q1 : max m L = L := by omega
         clear y1 y2 y3 y6 n1 hSk hPk
         go_wp2_with fail
         go_at_call 89
         refine (K5).mono ?_
         rintro e wa ⟨rfl, hb⟩
         have HB1 : Hid (At w _ wa) := HAT.out.trans hb
         clear hb K5 HAT x0 x1 x2 x3 x4 x5 x6 x7 x8 
         obtain ⟨x0, x1, x2, x3, x4, x5, x6, x7, x8⟩ := HB1.out.cells
         simp only at x0 x1 x2 x3 x4 x5 x6 x7 x8
         go_wp2_with fail
         go_at_call 88
         refine (K6 _).mono ?_
         rintro e wb ⟨rfl, hb⟩
         have HB2 : Hid (At w _ wb) := HB1.out.trans hb
         clear hb K6 HB1 x0 x1 x2 x3 x4 x5 x6 x7 x8 
         go_wp2
         all_goals
          go_roundw
          case rel => exact ⟨k + 1, by omega, by omega, by go_num, by rw [HQ.out.2], by rw [HQ.out.1], HB2.out⟩
          case measure => simp [RowKit.intOf]; omega
        ·have n1 : ne = false := by
          cases ne with
          | false => rfl
          | true => have := (y3.1 rfl).2; omega
         have HQ : Hid (SS (k + 1) = s ∧ SM (k + 1) = m) := y2 n1
         clear y1 y2 y3 y6 n1 hSk hPk
         go_wp2_with fail
         go_at_call 89
         refine (K5).mono ?_
         rintro e wa ⟨rfl, hb⟩
         have HB1 : Hid (At w _ wa) := HAT.out.trans hb
         clear hb K5 HAT x0 x1 x2 x3 x4 x5 x6 x7 x8 
         obtain ⟨x0, x1, x2, x3, x4, x5, x6, x7, x8⟩ := HB1.out.cells
         simp only at x0 x1 x2 x3 x4 x5 x6 x7 x8
         go_wp2_with fail
         go_at_call 88
         refine (K6 _).mono ?_
         rintro e wb ⟨rfl, hb⟩
         have HB2 : Hid (At w _ wb) := HB1.out.trans hb
         clear hb K6 HB1 x0 x1 x2 x3 x4 x5 x6 x7 x8 
         go_wp2
         all_goals
          go_roundw
          case rel => exact ⟨k + 1, by omega, by omega, by go_num, by rw [HQ.out.2], by rw [HQ.out.1], HB2.out⟩
          case measure => simp [RowKit.intOf]; omega
       ·have h4 : ¬ g < m := by omega
        have n1 : ne = false := by
         cases ne with
         | false => rfl
         | true => have := (y3.1 rfl).2; omega
        have HQ : Hid (SS (k + 1) = s ∧ SM (k + 1) = m) := y2 n1
        clear y1 y2 y3 y6 n1 hSk hPk
        go_wp2_with fail
        go_at_call 89
        refine (K5).mono ?_
        rintro e wa ⟨rfl, hb⟩
        have HB1 : Hid (At w _ wa) := HAT.out.trans hb
        clear hb K5 HAT x0 x1 x2 x3 x4 x5 x6 x7 x8 
        obtain ⟨x0, x1, x2, x3, x4, x5, x6, x7, x8⟩ := HB1.out.cells
        simp only at x0 x1 x2 x3 x4 x5 x6 x7 x8
        go_wp2_with fail
        go_at_call 88
        refine (K6 _).mono ?_
        rintro e wb ⟨rfl, hb⟩
        have HB2 : Hid (At w _ wb) := HB1.out.trans hb
        clear hb K6 HB1 x0 x1 x2 x3 x4 x5 x6 x7 x8 
        go_wp2
        all_goals
         go_roundw
         case rel => exact ⟨k + 1, by omega, by omega, by go_num, by rw [HQ.out.2], by rw [HQ.out.1], HB2.out⟩
         case measure => simp [RowKit.intOf]; omega
      ·by_cases h2 : g < m
       ·by_cases h3 : g ≤ L
        ·by_cases h4 : L < m
         ·have n1 : ne = true := by
           exact y3.2 ⟨rfl, by omega⟩
          have HQ : Hid (SS (k + 1) = k ∧ SM (k + 1) = L) := y1 n1
          have q1 : min m L = L := by omega
          clear y1 y2 y3 y6 n1 hSk hPk
          go_wp2_with fail
          go_at_call 89
          refine (K5).mono ?_
          rintro e wa ⟨rfl, hb⟩
          have HB1 : Hid (At w _ wa) := HAT.out.trans hb
          clear hb K5 HAT x0 x1 x2 x3 x4 x5 x6 x7 x8 
          obtain ⟨x0, x1, x2, x3, x4, x5, x6, x7, x8⟩ := HB1.out.cells
          simp only at x0 x1 x2 x3 x4 x5 x6 x7 x8
          go_wp2_with fail
          go_at_call 88
          refine (K6 _).mono ?_
          rintro e wb ⟨rfl, hb⟩
          have HB2 : Hid (At w _ wb) := HB1.out.trans hb
          clear hb K6 HB1 x0 x1 x2 x3 x4 x5 x6 x7 x8 
          go_wp2
          all_goals
           go_roundw
           case rel => exact ⟨k + 1, by omega, by omega, by go_num, by rw [HQ.out.2], by rw [HQ.out.1], HB2.out⟩
           case measure => simp [RowKit.intOf]; omega
         ·have n1 : ne = false := by
           cases ne with
           | false => rfl
           | true => have := (y3.1 rfl).2; omega
          have HQ : Hid (SS (k + 1) = s ∧ SM (k + 1) = m) := y2 n1
          clear y1 y2 y3 y6 n1 hSk hPk
          go_wp2_with fail
          go_at_call 89
          refine (K5).mono ?_
          rintro e wa ⟨rfl, hb⟩
          have HB1 : Hid (At w _ wa) := HAT.out.trans hb
          clear hb K5 HAT x0 x1 x2 x3 x4 x5 x6 x7 x8 
          obtain ⟨x0, x1, x2, x3, x4, x5, x6, x7, x8⟩ := HB1.out.cells
          simp only at x0 x1 x2 x3 x4 x5 x6 x7 x8
          go_wp2_with fail
          go_at_call 88
          refine (K6 _).mono ?_
          rintro e wb ⟨rfl, hb⟩
          have HB2 : Hid (At w _ wb) := HB1.out.trans hb
          clear hb K6 HB1 x0 x1 x2 x3 x4 x5 x6 x7 x8 
          go_wp2
          all_goals
           go_roundw
           case rel => exact ⟨k + 1, by omega, by omega, by go_num, by rw [HQ.out.2], by rw [HQ.out.1], HB2.out⟩
           case measure => simp [RowKit.intOf]; omega
        ·have n1 : ne = false := by
          cases ne with
          | false => rfl
          | true => have := (y3.1 rfl).2; omega
         have HQ : Hid (SS (k + 1) = s ∧ SM (k + 1) = m) := y2 n1
         clear y1 y2 y3 y6 n1 hSk hPk
         go_wp2_with fail
         go_at_call 89
         refine (K5).mono ?_
         rintro e wa ⟨rfl, hb⟩
         have HB1 : Hid (At w _ wa) := HAT.out.trans hb
         clear hb K5 HAT x0 x1 x2 x3 x4 x5 x6 x7 x8 
         obtain ⟨x0, x1, x2, x3, x4, x5, x6, x7, x8⟩ := HB1.out.cells
         simp only at x0 x1 x2 x3 x4 x5 x6 x7 x8
         go_wp2_with fail
         go_at_call 88
         refine (K6 _).mono ?_
         rintro e wb ⟨rfl, hb⟩
         have HB2 : Hid (At w _ wb) := HB1.out.trans hb
         clear hb K6 HB1 x0 x1 x2 x3 x4 x5 x6 x7 x8 
         go_wp2
         all_goals
          go_roundw
          case rel => exact ⟨k + 1, by omega, by omega, by go_num, by rw [HQ.out.2], by rw [HQ.out.1], HB2.out⟩
          case measure => simp [RowKit.intOf]; omega
       ·have n1 : ne = false := by
         cases ne with
         | false => rfl
         | true => have := (y3.1 rfl).2; omega
        have HQ : Hid (SS (k + 1) = s ∧ SM (k + 1) = m) := y2 n1
        clear y1 y2 y3 y6 n1 hSk hPk
        go_wp2_with fail
        go_at_call 89
        refine (K5).mono ?_
        rintro e wa ⟨rfl, hb⟩
        have HB1 : Hid (At w _ wa) := HAT.out.trans hb
        clear hb K5 HAT x0 x1 x2 x3 x4 x5 x6 x7 x8 
        obtain ⟨x0, x1, x2, x3, x4, x5, x6, x7, x8⟩ := HB1.out.cells
        simp only at x0 x1 x2 x3 x4 x5 x6 x7 x8
        go_wp2_with fail
        go_at_call 88
        refine (K6 _).mono ?_
        rintro e wb ⟨rfl, hb⟩
        have HB2 : Hid (At w _ wb) := HB1.out.trans hb
        clear hb K6 HB1 x0 x1 x2 x3 x4 x5 x6 x7 x8 
        go_wp2
        all_goals
         go_roundw
         case rel => exact ⟨k + 1, by omega, by omega, by go_num, by rw [HQ.out.2], by rw [HQ.out.1], HB2.out⟩
         case measure => simp [RowKit.intOf]; omega
    ·have hltz : ¬ (k : Int) ≤ 4 := by omega
     obtain rfl : k = 5 := by omega
     go_wp2
     go_ret2
     exact ⟨rfl, HAT.out.below⟩
end Go.Proofs.YtmmegmonmilkcaaGreatDoor.G
