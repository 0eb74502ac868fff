/-
 The walk of the document's Choose.
-/
import Derived.Test.YtmmegmonmilkcaaGreatDoorRopts
namespace Go.Proofs.YtmmegmonmilkcaaGreatDoor.G
open Go.RowKit
set_option maxHeartbeats 1000000 in
theorem rchoose_any (c : Cf) (a b k : Int) (h1 : -9223372036854775808 ≤ k) (h2 : k ≤ 9223372036854775807) (w : World) : Calls Tryz.prog 50 #[cfv c, .int .i64 a, .int .i64 b, .int .i64 k] w fun e w' => e = .returned (.tuple #[.int .i64 (chP (opt c a b) k), .bool (chB (opt c a b))]) ∧ Below w.heap.size w w' := by
 have A0 : Hid (At w c (w.alloc (.cells (cfc c) 23))) := At.start w c
 have K := roptions_any c a b (w.alloc (.cells (cfc c) 23))
 have LE := opt_le2 c a b
 generalize opt c a b = L at *
 by_cases hl : L = []
 ·subst hl
  rw [show chP [] k = 0 by simp [chP], show chB [] = false from rfl]
  clear LE
  obtain ⟨cw, ch, cl, cd, cr, ci, cb, we, ca⟩ := c
  simp only [cfv, cfc] at *
  go_enter Tryz.func50, Tryz.ntmps50
  go_wp2_with fail
  go_at_call 90
  refine K.mono ?_
  rintro e v1 ⟨v, rfl, own, hb⟩
  have HA1 : Hid (At w _ v1) := A0.out.trans hb
  obtain ⟨al, cap, rfl, _, _, _⟩ := own.rd
  rw [vi_len]
  clear hb K own
  go_wp2
  go_ret2
  exact ⟨rfl, HA1.out.below⟩
 ·have hl0 : L.length ≠ 0 := fun e => hl (List.eq_nil_of_length_eq_zero e)
  obtain ⟨j, hj, hm, hp⟩ := ch_at hl0 h1 h2
  rw [hp, show chB L = true by unfold chB; simp [hl0]]
  have HV : Hid ((vi L)[j]? = some (.int .i64 (L.getD j 0))) := vi_at hj
  have HL : Hid ((vi L).length = L.length) := vi_len L
  generalize L.getD j 0 = R at *
  generalize hn : L.length = n at *
  clear hn hp hl
  have hj1 : (j : Int) < n := by omega
  have hj0 : (0 : Int) ≤ j := by omega
  have hn0 : ¬ (n : Int) = 0 := by omega
  obtain ⟨cw, ch, cl, cd, cr, ci, cb, we, ca⟩ := c
  simp only [cfv, cfc] at *
  by_cases k0 : k < 0
  ·have e0 : chAbs k = -1 - k := by unfold chAbs; rw [if_pos k0]; omega
   obtain ⟨q, hq⟩ : ∃ q, q = -1 - k := ⟨_, rfl⟩
   obtain ⟨q', hq'⟩ : ∃ q', q' = k + 1 := ⟨_, rfl⟩
   have e1 : IntKind.i64.wrap (k + 1) = q' := by rw [IntWalk.i64_in _ (by omega)]; omega
   have e2 : IntKind.i64.wrap (-q') = q := by rw [IntWalk.i64_in _ (by omega)]; omega
   rw [e0, ← hq] at hm
   clear hq hq'
   clear e0 h1 h2 hl0 hj
   go_enter Tryz.func50, Tryz.ntmps50
   go_wp2_with fail
   go_at_call 90
   refine K.mono ?_
   rintro e v1 ⟨v, rfl, own, hb⟩
   have HA1 : Hid (At w _ v1) := A0.out.trans hb
   obtain ⟨g, cap, rfl, _, _, _, _, hc⟩ := own.form (by rw [HL.out]; omega)
   have c0 := hc j _ HV.out
   rw [HL.out]
   clear hb K own hc
   go_wp2
   go_ret2
   exact ⟨rfl, HA1.out.below⟩
  ·have e0 : chAbs k = k := by unfold chAbs; rw [if_neg k0]
   rw [e0] at hm
   clear e0 h1 h2 hl0 hj
   go_enter Tryz.func50, Tryz.ntmps50
   go_wp2_with fail
   go_at_call 90
   refine K.mono ?_
   rintro e v1 ⟨v, rfl, own, hb⟩
   have HA1 : Hid (At w _ v1) := A0.out.trans hb
   obtain ⟨g, cap, rfl, _, _, _, _, hc⟩ := own.form (by rw [HL.out]; omega)
   have c0 := hc j _ HV.out
   rw [HL.out]
   clear hb K own hc
   go_wp2
   go_ret2
   exact ⟨rfl, HA1.out.below⟩
end Go.Proofs.YtmmegmonmilkcaaGreatDoor.G
