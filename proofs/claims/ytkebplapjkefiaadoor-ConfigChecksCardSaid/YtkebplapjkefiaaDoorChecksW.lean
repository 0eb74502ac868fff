/-
  The walk of ConfigChecks.
-/
import Derived.Test.YtkebplapjkefiaaDoorLives
import Derived.Test.YtkebplapjkefiaaDoorRtext
namespace Go.Proofs.YtkebplapjkefiaaDoor
open Go.RowKit Go.Lib

theorem rnod_any (c : Cf) (w : World) : Calls Tryd.prog 14 #[cfv c] w fun e w' => e = .returned (.int .i64 (nod c)) ∧ Below w.heap.size w w' := rnodes_any c w

set_option maxRecDepth 100000 in
set_option maxHeartbeats 4000000 in
theorem configChecks_any (c : Cf) (hi : In c) (w : World) (hE : Env w) : Calls Tryd.prog 3 #[cfv c] w fun e w' => e = .returned (.bool true) ∧ Below w.heap.size w w' := by
  have LV := lives_any _ (At.env (At.start w c) hE)
  have C1 := fun v => class_any c false v
  have C2 := fun v => class_any c true v
  have D1 := fun v => rclass_any c false v
  have D2 := fun v => rclass_any c true v
  have CK := fun v => check_any c v
  have DK := fun v => rcheck_any c v
  have CN := fun v => nodes_any c v
  have DN := fun v => rnod_any c v
  have CT := fun v hv => text_any c hi v hv
  have DT := fun v => rtext_any c hi v
  have HE : Hid (Env w) := hE
  have A_v0 : Hid (At w c (w.alloc (.cells (cfc c) 23))) := At.start w c
  clear hE hi
  generalize bs (txt c) = TT at *
  generalize nod c = NN at *
  generalize chk c = KK at *
  generalize (cla c false).1 = p1 at *
  generalize (cla c false).2 = p2 at *
  generalize (cla c true).1 = p3 at *
  generalize (cla c true).2 = p4 at *
  obtain ⟨cw, ch, cl, cd, cr, ci, cb, we, ca⟩ := c
  simp only [cfv, cfc] at *
  go_enter Tryd.func3, Tryd.ntmps3
  go_wp2_with fail
  go_at_call 8
  refine (LV).mono ?_
  rintro e v1 ⟨rfl, hb⟩
  have A_v1 : Hid (At w _ v1) := A_v0.out.trans hb
  clear hb
  obtain ⟨x0, x1, x2, x3, x4, x5, x6, x7, x8⟩ := A_v1.out.cells
  simp only at x0 x1 x2 x3 x4 x5 x6 x7 x8
  go_wp2_with fail
  go_at_call 9
  refine (C1 _).mono ?_
  rintro e v2 ⟨rfl, hb⟩
  have A_v2 : Hid (At w _ v2) := A_v1.out.trans hb
  clear hb
  clear x0 x1 x2 x3 x4 x5 x6 x7 x8
  obtain ⟨x0, x1, x2, x3, x4, x5, x6, x7, x8⟩ := A_v2.out.cells
  simp only at x0 x1 x2 x3 x4 x5 x6 x7 x8
  go_wp2_with fail
  go_at_call 10
  refine (D1 _).mono ?_
  rintro e v3 ⟨rfl, hb⟩
  have A_v3 : Hid (At w _ v3) := A_v2.out.trans hb
  clear hb
  clear x0 x1 x2 x3 x4 x5 x6 x7 x8
  obtain ⟨x0, x1, x2, x3, x4, x5, x6, x7, x8⟩ := A_v3.out.cells
  simp only at x0 x1 x2 x3 x4 x5 x6 x7 x8
  go_wp2_with fail
  go_at_call 9
  refine (C2 _).mono ?_
  rintro e v4 ⟨rfl, hb⟩
  have A_v4 : Hid (At w _ v4) := A_v3.out.trans hb
  clear hb
  clear x0 x1 x2 x3 x4 x5 x6 x7 x8
  obtain ⟨x0, x1, x2, x3, x4, x5, x6, x7, x8⟩ := A_v4.out.cells
  simp only at x0 x1 x2 x3 x4 x5 x6 x7 x8
  go_wp2_with fail
  go_at_call 10
  refine (D2 _).mono ?_
  rintro e v5 ⟨rfl, hb⟩
  have A_v5 : Hid (At w _ v5) := A_v4.out.trans hb
  clear hb
  clear x0 x1 x2 x3 x4 x5 x6 x7 x8
  obtain ⟨x0, x1, x2, x3, x4, x5, x6, x7, x8⟩ := A_v5.out.cells
  simp only at x0 x1 x2 x3 x4 x5 x6 x7 x8
  clear x0 x1 x2 x3 x4 x5 x6 x7 x8 LV C1 C2 D1 D2
  go_wp2_with fail
  have T5 := A_v5.out.drew
  have S5 := T5.cells
  go_region_held3 (fun v => v.cell? ⟨w.heap.size, 0, none⟩ = some (.int .i64 cw) ∧ v.cell? ⟨w.heap.size, 1, none⟩ = some (.int .i64 ch) ∧ v.cell? ⟨w.heap.size, 2, none⟩ = some (.int .i64 cl) ∧ v.cell? ⟨w.heap.size, 3, none⟩ = some (.int .i64 cd) ∧ v.cell? ⟨w.heap.size, 4, none⟩ = some (.int .i64 cr) ∧ v.cell? ⟨w.heap.size, 5, none⟩ = some (.int .i64 ci) ∧ v.cell? ⟨w.heap.size, 6, none⟩ = some (.int .i64 cb) ∧ v.cell? ⟨w.heap.size, 7, none⟩ = some (.bool we) ∧ v.cell? ⟨w.heap.size, 8, none⟩ = some (.bool ca))
    (first | exact S11 | exact S10 | exact S9 | exact S8 | exact S7 | exact S6 | exact S5 | go_keep)
    (first
      | (go_at_call 11; (with_reducible refine (CK _).mono ?_); rintro e v6 ⟨rfl, hb6⟩; have T6 := T5.trans hb6; have S6 := T6.cells)
      | (go_at_call 12; (with_reducible refine (DK _).mono ?_); rintro e v7 ⟨rfl, hb7⟩; have T7 := T6.trans hb7; have S7 := T7.cells)
      | (go_at_call 13; (with_reducible refine (CN _).mono ?_); rintro e v8 ⟨rfl, hb8⟩; have T8 := T7.trans hb8; have S8 := T8.cells)
      | (go_at_call 14; (with_reducible refine (DN _).mono ?_); rintro e v9 ⟨rfl, hb9⟩; have T9 := T8.trans hb9; have S9 := T9.cells; have E9 := T9.env HE.out)
      | (go_at_call 15; (with_reducible refine (CT _ E9).mono ?_); rintro e v10 ⟨rfl, hb10⟩; have T10 := T9.trans hb10; have S10 := T10.cells)
      | (go_at_call 16; (with_reducible refine (DT _).mono ?_); rintro e v11 ⟨rfl, hb11⟩; have T11 := T10.trans hb11; have S11 := T11.cells))
  go_wp2
  go_ret
  exact ⟨rfl, T11.below⟩
end Go.Proofs.YtkebplapjkefiaaDoor
