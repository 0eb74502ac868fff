/-
  The walks of choiceAt and of leading.
-/
import Derived.Test.YtaohimmmhpmgdaaDoorWPlain
import Derived.Test.YtaohimmmhpmgdaaDoorBeside
import Derived.Test.YtaohimmmhpmgdaaDoorRd
namespace Go.Proofs.YtaohimmmhpmgdaaDoor
open Go.RowKit

theorem choiceAt_any (i : Nat) (s : Option Addr) (cs : List Int) (cap : Nat) (w : World) (hr : RdA w s (vi cs)) :
    Calls Tryd.prog 31 #[.int .i64 i, .slice s cs.length cap] w fun e w' => e = .returned (.int .i64 (cs.getD i 0)) ∧ w = w' := by
  by_cases hlt : i < cs.length
  · have hv := vi_at hlt
    obtain ⟨g, o, rfl, hg, c0⟩ := hr i _ hv
    generalize cs.getD i 0 = z at *
    generalize cs.length = n at *
    have h1 : ¬ (n : Int) ≤ i := by omega
    have h2 : (i : Int) < n := by omega
    have h3 : (0 : Int) ≤ i := by omega
    clear hv hr hg hlt
    go_enter Tryd.func31, Tryd.ntmps31
    go_wp2
    go_ret
    exact ⟨rfl, rfl⟩
  · have hz : cs.getD i 0 = 0 := by rw [List.getD_eq_getElem?_getD, List.getElem?_eq_none (by omega)]; rfl
    rw [hz]
    generalize cs.length = n at *
    have h1 : (n : Int) ≤ i := by omega
    clear hz hr hlt
    go_enter Tryd.func31, Tryd.ntmps31
    go_wp2
    go_ret
    exact ⟨rfl, rfl⟩

set_option maxHeartbeats 1000000 in
theorem leading_any (c : Cf) (n p : Int) (w : World) (hp : bsB c n p = true) (hS : Steps w) :
    Calls Tryd.prog 35 #[cfv c, .int .i64 n, .int .i64 (bsN c n p)] w fun e w' => e = .returned (.tuple #[.int .i64 p, .bool true]) ∧ Below w.heap.size w w' := by
  have A0 : Hid (At w c (w.alloc (.cells (cfc c) 29))) := At.start w c
  have HS : Hid (Steps w) := hS
  have KB := fun (k : Nat) v (h : Steps v) => beside_any c n k v h
  obtain ⟨m, rfl, hm⟩ : ∃ m : Nat, p = (m : Int) ∧ m < 5 := by
    have := (isP_iff p).1 (step_ok hp).2.1
    exact ⟨p.toNat, by omega, by omega⟩
  have UN : Hid (∀ k : Nat, bsB c n k = true → bsN c n k = bsN c n m → k = m) := show _ from fun k h1 h2 => by
    have := bs_uniq h1 hp h2
    omega
  clear hS
  generalize bsN c n = N at *
  generalize bsB c n = G at *
  obtain ⟨t, ht⟩ : ∃ t, N m = t := ⟨_, rfl⟩
  have HT : Hid (N m = t) := ht
  have HP : Hid (G m = true) := hp
  rw [ht]
  clear ht hp
  obtain ⟨cw, ch, cl, cd, cr, ci, cb, we, ca⟩ := c
  simp only [cfv, cfc] at *
  go_enter Tryd.func35, Tryd.ntmps35
  go_wp2_with fail
  go_loopw [11] (fun i wr => ∃ k : Nat, k ≤ m ∧ i = .int .i64 k ∧ At w ⟨cw, ch, cl, cd, cr, ci, cb, we, ca⟩ wr) (fun i _ => 5 - (RowKit.intOf i).toNat)
  case atStart => exact ⟨0, Nat.zero_le _, rfl, A0.out⟩
  case round =>
    obtain ⟨k, hk, rfl, hat⟩ := hrel
    have HAT : Hid (At w ⟨cw, ch, cl, cd, cr, ci, cb, we, ca⟩ wr) := hat
    have hk5 : (k : Int) < 5 := by omega
    obtain ⟨x0, x1, x2, x3, x4, x5, x6, x7, x8⟩ := hat.cells
    simp only at x0 x1 x2 x3 x4 x5 x6 x7 x8
    have K := KB k wr (hat.steps HS.out)
    clear hat KB
    by_cases hkm : k = m
    · subst hkm
      rw [HT.out, HP.out] at K
      go_wp2_with fail
      go_at_call 23
      refine K.mono ?_
      rintro e wa ⟨rfl, hb⟩
      have HB : Hid (Below w.heap.size w wa) := (HAT.out.trans hb).below
      clear hb HAT K x0 x1 x2 x3 x4 x5 x6 x7 x8
      go_wp2
      go_ret2
      exact ⟨rfl, HB.out⟩
    · have un := UN.out k
      rw [HT.out] at un
      generalize N k = q at *
      cases hg : G k with
      | false =>
        rw [hg] at K
        clear un hg
        go_wp2_with fail
        go_at_call 23
        refine K.mono ?_
        rintro e wa ⟨rfl, hb⟩
        have HA : Hid (At w ⟨cw, ch, cl, cd, cr, ci, cb, we, ca⟩ wa) := HAT.out.trans hb
        clear hb HAT K x0 x1 x2 x3 x4 x5 x6 x7 x8
        go_wp2
        go_roundw
        case rel => exact ⟨k + 1, by omega, by go_num, HA.out⟩
        case measure => simp [RowKit.intOf]; omega
      | true =>
        rw [hg] at K
        have hne : ¬ q = t := fun e => hkm (un hg e)
        clear un hg
        go_wp2_with fail
        go_at_call 23
        refine K.mono ?_
        rintro e wa ⟨rfl, hb⟩
        have HA : Hid (At w ⟨cw, ch, cl, cd, cr, ci, cb, we, ca⟩ wa) := HAT.out.trans hb
        clear hb HAT K x0 x1 x2 x3 x4 x5 x6 x7 x8
        go_wp2
        go_roundw
        case rel => exact ⟨k + 1, by omega, by go_num, HA.out⟩
        case measure => simp [RowKit.intOf]; omega
end Go.Proofs.YtaohimmmhpmgdaaDoor
