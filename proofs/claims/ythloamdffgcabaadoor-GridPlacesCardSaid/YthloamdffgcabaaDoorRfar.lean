/-
  The walk of the document's Far.
-/
import Derived.Test.YthloamdffgcabaaDoorBeside
import Derived.IntWalk
namespace Go.Proofs.YthloamdffgcabaaDoor
open Go.RowKit

theorem neg_in (a b : Int) (h : -63 ≤ b - a ∧ b - a ≤ 63) (h' : a ≤ b) : ∃ d : Int, b - a = d ∧ 0 ≤ d ∧ d ≤ 63 ∧ IntKind.i64.wrap (a - b) = -d ∧ IntKind.i64.wrap (- -d) = d ∧ max (-d) d = d ∧ ¬ d < -d :=
  ⟨b - a, rfl, by omega, by omega, by rw [IntWalk.i64_in _ (by omega)]; omega, by rw [IntWalk.i64_in _ (by omega)]; omega, by omega, by omega⟩
theorem pos_in (a b : Int) (h : -63 ≤ b - a ∧ b - a ≤ 63) (h' : ¬ a ≤ b) : ∃ d : Int, a - b = d ∧ 0 < d ∧ d ≤ 63 ∧ IntKind.i64.wrap (a - b) = d ∧ IntKind.i64.wrap (-d) = -d ∧ max d (-d) = d ∧ ¬ d ≤ -d :=
  ⟨a - b, rfl, by omega, by omega, by rw [IntWalk.i64_in _ (by omega)], by rw [IntWalk.i64_in _ (by omega)], by omega, by omega⟩

set_option maxRecDepth 100000 in
set_option maxHeartbeats 1000000 in
theorem rfar_any (c : Cf) (a b : Int) (w : World) : Calls Tryd.prog 21 #[cfv c, .int .i64 a, .int .i64 b] w fun e w' => e = .returned (.int .i64 (fr c a b)) ∧ Below w.heap.size w w' := by
  have K1 := ris_any c a
  have K2 := ris_any c b
  have A0 : Hid (At w c (w.alloc (.cells (cfc c) 23))) := At.start w c
  cases h1 : isN c a with
  | false =>
    rw [show fr c a b = -1 by unfold fr; rw [h1]; rfl]
    rw [h1] at K1
    clear h1 K2
    obtain ⟨cw, ch, cl, cd, cr, ci, cb, we, ca⟩ := c
    simp only [cfv, cfc] at *
    go_enter Tryd.func21, Tryd.ntmps21
    go_wp2_with fail
    go_at_call 12
    refine (K1 _).mono ?_
    rintro e v1 ⟨rfl, hb⟩
    have HA1 : Hid (At w _ v1) := A0.out.trans hb
    clear hb K1
    go_wp2
    go_ret
    exact ⟨rfl, HA1.out.below⟩
  | true =>
  cases h2 : isN c b with
  | false =>
    rw [show fr c a b = -1 by unfold fr; rw [h1, h2]; rfl]
    rw [h1] at K1
    rw [h2] at K2
    clear h1 h2
    obtain ⟨cw, ch, cl, cd, cr, ci, cb, we, ca⟩ := c
    simp only [cfv, cfc] at *
    go_enter Tryd.func21, Tryd.ntmps21
    go_wp2_with fail
    go_at_call 12
    refine (K1 _).mono ?_
    rintro e v1 ⟨rfl, hb⟩
    have A1 := A0.out.trans hb
    clear hb K1
    obtain ⟨x0, x1, x2, x3, x4, x5, x6, x7, x8⟩ := A1.cells
    have HA1 : Hid (At w _ v1) := A1
    clear A1
    simp only at x0 x1 x2 x3 x4 x5 x6 x7 x8
    go_wp2_with fail
    go_at_call 12
    refine (K2 _).mono ?_
    rintro e v2 ⟨rfl, hb⟩
    have HA2 : Hid (At w _ v2) := HA1.out.trans hb
    clear hb K2 x0 x1 x2 x3 x4 x5 x6 x7 x8
    go_wp2
    go_ret
    exact ⟨rfl, HA2.out.below⟩
  | true =>
    have px := plx_in c a
    have py := ply_in c a
    have qx := plx_in c b
    have qy := ply_in c b
    have X1 := rx_any c a h1
    have X2 := rx_any c b h2
    have Y1 := ry_any c a h1
    have Y2 := ry_any c b h2
    rw [fr_ok h1 h2]
    rw [h1] at K1
    rw [h2] at K2
    clear h1 h2
    generalize plx c a = X at *
    generalize ply c a = Y at *
    generalize plx c b = X' at *
    generalize ply c b = Y' at *
    unfold btw
    by_cases hx : X ≤ X'
    · by_cases hy : Y ≤ Y'
      · rw [if_pos hx]
        rw [if_pos hy]
        obtain ⟨d, hd, hd0, hd1, hd2, hd3, hd4, hd5⟩ := neg_in X X' (by omega) hx
        obtain ⟨k, hk, hk0, hk1, hk2, hk3, hk4, hk5⟩ := neg_in Y Y' (by omega) hy
        rw [hd, hk]
        clear hd hk hx hy
        obtain ⟨cw, ch, cl, cd, cr, ci, cb, we, ca⟩ := c
        simp only [cfv, cfc] at *
        go_enter Tryd.func21, Tryd.ntmps21
        go_wp2_with fail
        go_at_call 12
        refine (K1 _).mono ?_
        rintro e v1 ⟨rfl, hb⟩
        have A1 := A0.out.trans hb
        clear hb K1
        obtain ⟨x0, x1, x2, x3, x4, x5, x6, x7, x8⟩ := A1.cells
        have HA1 : Hid (At w _ v1) := A1
        clear A1
        simp only at x0 x1 x2 x3 x4 x5 x6 x7 x8
        go_wp2_with fail
        go_at_call 12
        refine (K2 _).mono ?_
        rintro e v2 ⟨rfl, hb⟩
        have T1 := HA1.out.trans hb
        clear hb K2 x0 x1 x2 x3 x4 x5 x6 x7 x8
        go_wp2_with fail
        have D1 := T1.drew
        have SD := D1.cells
        go_region_held3 (fun v => v.cell? ⟨w.heap.size, 0, none⟩ = some (.int .i64 cw) ∧ v.cell? ⟨w.heap.size, 1, none⟩ = some (.int .i64 ch) ∧ v.cell? ⟨w.heap.size, 2, none⟩ = some (.int .i64 cl) ∧ v.cell? ⟨w.heap.size, 3, none⟩ = some (.int .i64 cd) ∧ v.cell? ⟨w.heap.size, 4, none⟩ = some (.int .i64 cr) ∧ v.cell? ⟨w.heap.size, 5, none⟩ = some (.int .i64 ci) ∧ v.cell? ⟨w.heap.size, 6, none⟩ = some (.int .i64 cb) ∧ v.cell? ⟨w.heap.size, 7, none⟩ = some (.bool we) ∧ v.cell? ⟨w.heap.size, 8, none⟩ = some (.bool ca))
          (first | exact S6 | exact S5 | exact S4 | exact S3 | exact SD | go_keep)
          (first
            | (go_at_call 13; (with_reducible refine (X1 _).mono ?_); rintro e v3 ⟨rfl, hb3⟩; have T3 := D1.trans hb3; have S3 := T3.cells)
            | (go_at_call 13; (with_reducible refine (X2 _).mono ?_); rintro e v4 ⟨rfl, hb4⟩; have T4 := T3.trans hb4; have S4 := T4.cells)
            | (go_at_call 14; (with_reducible refine (Y1 _).mono ?_); rintro e v5 ⟨rfl, hb5⟩; have T5 := T4.trans hb5; have S5 := T5.cells)
            | (go_at_call 14; (with_reducible refine (Y2 _).mono ?_); rintro e v6 ⟨rfl, hb6⟩; have T6 := T5.trans hb6; have S6 := T6.cells))
        have HB : Hid (Below w.heap.size w v6) := T6.below
        clear T1 D1 SD T3 S3 T4 S4 T5 S5 T6 S6 hb3 hb4 hb5 hb6 X1 X2 Y1 Y2
        go_wp2
        all_goals
          go_ret
          exact ⟨ret_int (by omega), HB.out⟩
      · rw [if_pos hx]
        rw [if_neg hy]
        obtain ⟨d, hd, hd0, hd1, hd2, hd3, hd4, hd5⟩ := neg_in X X' (by omega) hx
        obtain ⟨k, hk, hk0, hk1, hk2, hk3, hk4, hk5⟩ := pos_in Y Y' (by omega) hy
        rw [hd, hk]
        clear hd hk hx hy
        obtain ⟨cw, ch, cl, cd, cr, ci, cb, we, ca⟩ := c
        simp only [cfv, cfc] at *
        go_enter Tryd.func21, Tryd.ntmps21
        go_wp2_with fail
        go_at_call 12
        refine (K1 _).mono ?_
        rintro e v1 ⟨rfl, hb⟩
        have A1 := A0.out.trans hb
        clear hb K1
        obtain ⟨x0, x1, x2, x3, x4, x5, x6, x7, x8⟩ := A1.cells
        have HA1 : Hid (At w _ v1) := A1
        clear A1
        simp only at x0 x1 x2 x3 x4 x5 x6 x7 x8
        go_wp2_with fail
        go_at_call 12
        refine (K2 _).mono ?_
        rintro e v2 ⟨rfl, hb⟩
        have T1 := HA1.out.trans hb
        clear hb K2 x0 x1 x2 x3 x4 x5 x6 x7 x8
        go_wp2_with fail
        have D1 := T1.drew
        have SD := D1.cells
        go_region_held3 (fun v => v.cell? ⟨w.heap.size, 0, none⟩ = some (.int .i64 cw) ∧ v.cell? ⟨w.heap.size, 1, none⟩ = some (.int .i64 ch) ∧ v.cell? ⟨w.heap.size, 2, none⟩ = some (.int .i64 cl) ∧ v.cell? ⟨w.heap.size, 3, none⟩ = some (.int .i64 cd) ∧ v.cell? ⟨w.heap.size, 4, none⟩ = some (.int .i64 cr) ∧ v.cell? ⟨w.heap.size, 5, none⟩ = some (.int .i64 ci) ∧ v.cell? ⟨w.heap.size, 6, none⟩ = some (.int .i64 cb) ∧ v.cell? ⟨w.heap.size, 7, none⟩ = some (.bool we) ∧ v.cell? ⟨w.heap.size, 8, none⟩ = some (.bool ca))
          (first | exact S6 | exact S5 | exact S4 | exact S3 | exact SD | go_keep)
          (first
            | (go_at_call 13; (with_reducible refine (X1 _).mono ?_); rintro e v3 ⟨rfl, hb3⟩; have T3 := D1.trans hb3; have S3 := T3.cells)
            | (go_at_call 13; (with_reducible refine (X2 _).mono ?_); rintro e v4 ⟨rfl, hb4⟩; have T4 := T3.trans hb4; have S4 := T4.cells)
            | (go_at_call 14; (with_reducible refine (Y1 _).mono ?_); rintro e v5 ⟨rfl, hb5⟩; have T5 := T4.trans hb5; have S5 := T5.cells)
            | (go_at_call 14; (with_reducible refine (Y2 _).mono ?_); rintro e v6 ⟨rfl, hb6⟩; have T6 := T5.trans hb6; have S6 := T6.cells))
        have HB : Hid (Below w.heap.size w v6) := T6.below
        clear T1 D1 SD T3 S3 T4 S4 T5 S5 T6 S6 hb3 hb4 hb5 hb6 X1 X2 Y1 Y2
        go_wp2
        all_goals
          go_ret
          exact ⟨ret_int (by omega), HB.out⟩
    · by_cases hy : Y ≤ Y'
      · rw [if_neg hx]
        rw [if_pos hy]
        obtain ⟨d, hd, hd0, hd1, hd2, hd3, hd4, hd5⟩ := pos_in X X' (by omega) hx
        obtain ⟨k, hk, hk0, hk1, hk2, hk3, hk4, hk5⟩ := neg_in Y Y' (by omega) hy
        rw [hd, hk]
        clear hd hk hx hy
        obtain ⟨cw, ch, cl, cd, cr, ci, cb, we, ca⟩ := c
        simp only [cfv, cfc] at *
        go_enter Tryd.func21, Tryd.ntmps21
        go_wp2_with fail
        go_at_call 12
        refine (K1 _).mono ?_
        rintro e v1 ⟨rfl, hb⟩
        have A1 := A0.out.trans hb
        clear hb K1
        obtain ⟨x0, x1, x2, x3, x4, x5, x6, x7, x8⟩ := A1.cells
        have HA1 : Hid (At w _ v1) := A1
        clear A1
        simp only at x0 x1 x2 x3 x4 x5 x6 x7 x8
        go_wp2_with fail
        go_at_call 12
        refine (K2 _).mono ?_
        rintro e v2 ⟨rfl, hb⟩
        have T1 := HA1.out.trans hb
        clear hb K2 x0 x1 x2 x3 x4 x5 x6 x7 x8
        go_wp2_with fail
        have D1 := T1.drew
        have SD := D1.cells
        go_region_held3 (fun v => v.cell? ⟨w.heap.size, 0, none⟩ = some (.int .i64 cw) ∧ v.cell? ⟨w.heap.size, 1, none⟩ = some (.int .i64 ch) ∧ v.cell? ⟨w.heap.size, 2, none⟩ = some (.int .i64 cl) ∧ v.cell? ⟨w.heap.size, 3, none⟩ = some (.int .i64 cd) ∧ v.cell? ⟨w.heap.size, 4, none⟩ = some (.int .i64 cr) ∧ v.cell? ⟨w.heap.size, 5, none⟩ = some (.int .i64 ci) ∧ v.cell? ⟨w.heap.size, 6, none⟩ = some (.int .i64 cb) ∧ v.cell? ⟨w.heap.size, 7, none⟩ = some (.bool we) ∧ v.cell? ⟨w.heap.size, 8, none⟩ = some (.bool ca))
          (first | exact S6 | exact S5 | exact S4 | exact S3 | exact SD | go_keep)
          (first
            | (go_at_call 13; (with_reducible refine (X1 _).mono ?_); rintro e v3 ⟨rfl, hb3⟩; have T3 := D1.trans hb3; have S3 := T3.cells)
            | (go_at_call 13; (with_reducible refine (X2 _).mono ?_); rintro e v4 ⟨rfl, hb4⟩; have T4 := T3.trans hb4; have S4 := T4.cells)
            | (go_at_call 14; (with_reducible refine (Y1 _).mono ?_); rintro e v5 ⟨rfl, hb5⟩; have T5 := T4.trans hb5; have S5 := T5.cells)
            | (go_at_call 14; (with_reducible refine (Y2 _).mono ?_); rintro e v6 ⟨rfl, hb6⟩; have T6 := T5.trans hb6; have S6 := T6.cells))
        have HB : Hid (Below w.heap.size w v6) := T6.below
        clear T1 D1 SD T3 S3 T4 S4 T5 S5 T6 S6 hb3 hb4 hb5 hb6 X1 X2 Y1 Y2
        go_wp2
        all_goals
          go_ret
          exact ⟨ret_int (by omega), HB.out⟩
      · rw [if_neg hx]
        rw [if_neg hy]
        obtain ⟨d, hd, hd0, hd1, hd2, hd3, hd4, hd5⟩ := pos_in X X' (by omega) hx
        obtain ⟨k, hk, hk0, hk1, hk2, hk3, hk4, hk5⟩ := pos_in Y Y' (by omega) hy
        rw [hd, hk]
        clear hd hk hx hy
        obtain ⟨cw, ch, cl, cd, cr, ci, cb, we, ca⟩ := c
        simp only [cfv, cfc] at *
        go_enter Tryd.func21, Tryd.ntmps21
        go_wp2_with fail
        go_at_call 12
        refine (K1 _).mono ?_
        rintro e v1 ⟨rfl, hb⟩
        have A1 := A0.out.trans hb
        clear hb K1
        obtain ⟨x0, x1, x2, x3, x4, x5, x6, x7, x8⟩ := A1.cells
        have HA1 : Hid (At w _ v1) := A1
        clear A1
        simp only at x0 x1 x2 x3 x4 x5 x6 x7 x8
        go_wp2_with fail
        go_at_call 12
        refine (K2 _).mono ?_
        rintro e v2 ⟨rfl, hb⟩
        have T1 := HA1.out.trans hb
        clear hb K2 x0 x1 x2 x3 x4 x5 x6 x7 x8
        go_wp2_with fail
        have D1 := T1.drew
        have SD := D1.cells
        go_region_held3 (fun v => v.cell? ⟨w.heap.size, 0, none⟩ = some (.int .i64 cw) ∧ v.cell? ⟨w.heap.size, 1, none⟩ = some (.int .i64 ch) ∧ v.cell? ⟨w.heap.size, 2, none⟩ = some (.int .i64 cl) ∧ v.cell? ⟨w.heap.size, 3, none⟩ = some (.int .i64 cd) ∧ v.cell? ⟨w.heap.size, 4, none⟩ = some (.int .i64 cr) ∧ v.cell? ⟨w.heap.size, 5, none⟩ = some (.int .i64 ci) ∧ v.cell? ⟨w.heap.size, 6, none⟩ = some (.int .i64 cb) ∧ v.cell? ⟨w.heap.size, 7, none⟩ = some (.bool we) ∧ v.cell? ⟨w.heap.size, 8, none⟩ = some (.bool ca))
          (first | exact S6 | exact S5 | exact S4 | exact S3 | exact SD | go_keep)
          (first
            | (go_at_call 13; (with_reducible refine (X1 _).mono ?_); rintro e v3 ⟨rfl, hb3⟩; have T3 := D1.trans hb3; have S3 := T3.cells)
            | (go_at_call 13; (with_reducible refine (X2 _).mono ?_); rintro e v4 ⟨rfl, hb4⟩; have T4 := T3.trans hb4; have S4 := T4.cells)
            | (go_at_call 14; (with_reducible refine (Y1 _).mono ?_); rintro e v5 ⟨rfl, hb5⟩; have T5 := T4.trans hb5; have S5 := T5.cells)
            | (go_at_call 14; (with_reducible refine (Y2 _).mono ?_); rintro e v6 ⟨rfl, hb6⟩; have T6 := T5.trans hb6; have S6 := T6.cells))
        have HB : Hid (Below w.heap.size w v6) := T6.below
        clear T1 D1 SD T3 S3 T4 S4 T5 S5 T6 S6 hb3 hb4 hb5 hb6 X1 X2 Y1 Y2
        go_wp2
        all_goals
          go_ret
          exact ⟨ret_int (by omega), HB.out⟩
end Go.Proofs.YthloamdffgcabaaDoor
