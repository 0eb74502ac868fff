/-
 The walk of the document's Beside.
-/
import Derived.Test.YtmmegmonmilkcaaGreatDoorGrid
namespace Go.Proofs.YtmmegmonmilkcaaGreatDoor.G
open Go.RowKit
set_option maxRecDepth 100000 in
set_option maxHeartbeats 1000000 in
theorem rbeside_any (c : Cf) (n p : Int) (w : World) : Calls Tryz.prog 89 #[cfv c, .int .i64 n, .int .i64 p] w fun e w' => e = .returned (.tuple #[.int .i64 (bsN c n p), .bool (bsB c n p)]) ∧ Below w.heap.size w w' := by
 have K := ris_any c n
 have A0 : Hid (At w c (w.alloc (.cells (cfc c) 23))) := At.start w c
 cases h : isN c n with
 | false =>
  rw [(bs_no (p := p) h).1, (bs_no (p := p) h).2]
  rw [h] at K
  clear h
  obtain ⟨cw, ch, cl, cd, cr, ci, cb, we, ca⟩ := c
  simp only [cfv, cfc] at *
  go_enter Tryz.func89, Tryz.ntmps89
  go_wp2_with fail
  go_at_call 34
  refine (K _).mono ?_
  rintro e v1 ⟨rfl, hb⟩
  have HA1 : Hid (At w _ v1) := A0.out.trans hb
  clear hb K
  go_wp2
  go_ret2
  exact ⟨rfl, HA1.out.below⟩
 | true =>
 cases hp : isP p with
 | false =>
  rw [(bs_nop (c := c) (n := n) hp).1, (bs_nop (c := c) (n := n) hp).2]
  rw [h] at K
  have h' : p < 0 ∨ ¬ p < 0 ∧ 4 < p := by
   have : ¬ (p = 0 ∨ p = 1 ∨ p = 2 ∨ p = 3 ∨ p = 4) := fun h => by rw [(isP_iff p).2 h] at hp; cases hp
   omega
  clear h hp
  obtain ⟨cw, ch, cl, cd, cr, ci, cb, we, ca⟩ := c
  simp only [cfv, cfc] at *
  rcases h' with h' | ⟨h', h2⟩
  all_goals
   go_enter Tryz.func89, Tryz.ntmps89
   go_wp2_with fail
   go_at_call 34
   refine (K _).mono ?_
   rintro e v1 ⟨rfl, hb⟩
   have HA1 : Hid (At w _ v1) := A0.out.trans hb
   clear hb K
   go_wp2
   go_ret2
   exact ⟨rfl, HA1.out.below⟩
 | true =>
  have X1 := rx_any c n h
  have Y1 := ry_any c n h
  have px := plx_in c n
  have py := ply_in c n
  have T := rat_any c (plx c n + dx p) (ply c n + dy p)
  rw [(bs_yes h hp).1, (bs_yes h hp).2]
  rw [h] at K
  have hp' := (isP_iff p).1 hp
  generalize atn c (plx c n + dx p) (ply c n + dy p) = R at *
  generalize ate c (plx c n + dx p) (ply c n + dy p) = E at *
  clear hp h
  generalize plx c n = X at *
  generalize ply c n = Y at *
  rcases hp' with rfl | rfl | rfl | rfl | rfl
  ·rw [show dx 0 = 0 from rfl, show dy 0 = 0 from rfl, Int.add_zero, Int.add_zero] at T
   obtain ⟨cw, ch, cl, cd, cr, ci, cb, we, ca⟩ := c
   simp only [cfv, cfc] at *
   go_enter Tryz.func89, Tryz.ntmps89
   go_wp2_with fail
   go_at_call 34
   refine (K _).mono ?_
   rintro e v1 ⟨rfl, hb⟩
   have T1 := A0.out.trans hb
   clear hb K
   have S1 := T1.cells
   simp only at S1
   go_wp2_with fail
   have D1 := T1.drew
   have SD := D1.cells
   go_region_held3 (fun v => v.cell? ⟨w.heap.size, 0, none⟩ = some (.int .i64 cw) ∧ v.cell? ⟨w.heap.size, 1, none⟩ = some (.int .i64 ch) ∧ v.cell? ⟨w.heap.size, 2, none⟩ = some (.int .i64 cl) ∧ v.cell? ⟨w.heap.size, 3, none⟩ = some (.int .i64 cd) ∧ v.cell? ⟨w.heap.size, 4, none⟩ = some (.int .i64 cr) ∧ v.cell? ⟨w.heap.size, 5, none⟩ = some (.int .i64 ci) ∧ v.cell? ⟨w.heap.size, 6, none⟩ = some (.int .i64 cb) ∧ v.cell? ⟨w.heap.size, 7, none⟩ = some (.bool we) ∧ v.cell? ⟨w.heap.size, 8, none⟩ = some (.bool ca))
    (first | exact S3 | exact S2 | exact SD | go_keep)
    (first
     | (go_at_call 114; (with_reducible refine (X1 _).mono ?_); rintro e v2 ⟨rfl, hb2⟩; have T2 := D1.trans hb2; have S2 := T2.cells)
     | (go_at_call 115; (with_reducible refine (Y1 _).mono ?_); rintro e v3 ⟨rfl, hb3⟩; have T3 := T2.trans hb3; have S3 := T3.cells))
   clear S1 SD S2 D1
   obtain ⟨x0, x1, x2, x3, x4, x5, x6, x7, x8⟩ := S3
   go_wp2_with fail
   go_at_call 116
   refine (T _).mono ?_
   rintro e v4 ⟨rfl, hb⟩
   have HB : Hid (Below w.heap.size w v4) := (T3.trans hb).below
   clear hb
   go_wp2
   go_ret2
   exact ⟨rfl, HB.out⟩
  ·rw [show dx 1 = 1 from rfl, show dy 1 = 0 from rfl, Int.add_zero] at T
   obtain ⟨cw, ch, cl, cd, cr, ci, cb, we, ca⟩ := c
   simp only [cfv, cfc] at *
   go_enter Tryz.func89, Tryz.ntmps89
   go_wp2_with fail
   go_at_call 34
   refine (K _).mono ?_
   rintro e v1 ⟨rfl, hb⟩
   have T1 := A0.out.trans hb
   clear hb K
   have S1 := T1.cells
   simp only at S1
   go_wp2_with fail
   have D1 := T1.drew
   have SD := D1.cells
   go_region_held3 (fun v => v.cell? ⟨w.heap.size, 0, none⟩ = some (.int .i64 cw) ∧ v.cell? ⟨w.heap.size, 1, none⟩ = some (.int .i64 ch) ∧ v.cell? ⟨w.heap.size, 2, none⟩ = some (.int .i64 cl) ∧ v.cell? ⟨w.heap.size, 3, none⟩ = some (.int .i64 cd) ∧ v.cell? ⟨w.heap.size, 4, none⟩ = some (.int .i64 cr) ∧ v.cell? ⟨w.heap.size, 5, none⟩ = some (.int .i64 ci) ∧ v.cell? ⟨w.heap.size, 6, none⟩ = some (.int .i64 cb) ∧ v.cell? ⟨w.heap.size, 7, none⟩ = some (.bool we) ∧ v.cell? ⟨w.heap.size, 8, none⟩ = some (.bool ca))
    (first | exact S3 | exact S2 | exact SD | go_keep)
    (first
     | (go_at_call 114; (with_reducible refine (X1 _).mono ?_); rintro e v2 ⟨rfl, hb2⟩; have T2 := D1.trans hb2; have S2 := T2.cells)
     | (go_at_call 115; (with_reducible refine (Y1 _).mono ?_); rintro e v3 ⟨rfl, hb3⟩; have T3 := T2.trans hb3; have S3 := T3.cells))
   clear S1 SD S2 D1
   obtain ⟨x0, x1, x2, x3, x4, x5, x6, x7, x8⟩ := S3
   go_wp2_with fail
   go_at_call 116
   refine (T _).mono ?_
   rintro e v4 ⟨rfl, hb⟩
   have HB : Hid (Below w.heap.size w v4) := (T3.trans hb).below
   clear hb
   go_wp2
   go_ret2
   exact ⟨rfl, HB.out⟩
  ·rw [show dx 2 = -1 from rfl, show dy 2 = 0 from rfl, Int.add_zero] at T
   obtain ⟨cw, ch, cl, cd, cr, ci, cb, we, ca⟩ := c
   simp only [cfv, cfc] at *
   go_enter Tryz.func89, Tryz.ntmps89
   go_wp2_with fail
   go_at_call 34
   refine (K _).mono ?_
   rintro e v1 ⟨rfl, hb⟩
   have T1 := A0.out.trans hb
   clear hb K
   have S1 := T1.cells
   simp only at S1
   go_wp2_with fail
   have D1 := T1.drew
   have SD := D1.cells
   go_region_held3 (fun v => v.cell? ⟨w.heap.size, 0, none⟩ = some (.int .i64 cw) ∧ v.cell? ⟨w.heap.size, 1, none⟩ = some (.int .i64 ch) ∧ v.cell? ⟨w.heap.size, 2, none⟩ = some (.int .i64 cl) ∧ v.cell? ⟨w.heap.size, 3, none⟩ = some (.int .i64 cd) ∧ v.cell? ⟨w.heap.size, 4, none⟩ = some (.int .i64 cr) ∧ v.cell? ⟨w.heap.size, 5, none⟩ = some (.int .i64 ci) ∧ v.cell? ⟨w.heap.size, 6, none⟩ = some (.int .i64 cb) ∧ v.cell? ⟨w.heap.size, 7, none⟩ = some (.bool we) ∧ v.cell? ⟨w.heap.size, 8, none⟩ = some (.bool ca))
    (first | exact S3 | exact S2 | exact SD | go_keep)
    (first
     | (go_at_call 114; (with_reducible refine (X1 _).mono ?_); rintro e v2 ⟨rfl, hb2⟩; have T2 := D1.trans hb2; have S2 := T2.cells)
     | (go_at_call 115; (with_reducible refine (Y1 _).mono ?_); rintro e v3 ⟨rfl, hb3⟩; have T3 := T2.trans hb3; have S3 := T3.cells))
   clear S1 SD S2 D1
   obtain ⟨x0, x1, x2, x3, x4, x5, x6, x7, x8⟩ := S3
   go_wp2_with fail
   go_at_call 116
   refine (T _).mono ?_
   rintro e v4 ⟨rfl, hb⟩
   have HB : Hid (Below w.heap.size w v4) := (T3.trans hb).below
   clear hb
   go_wp2
   go_ret2
   exact ⟨rfl, HB.out⟩
  ·rw [show dx 3 = 0 from rfl, show dy 3 = 1 from rfl, Int.add_zero] at T
   obtain ⟨cw, ch, cl, cd, cr, ci, cb, we, ca⟩ := c
   simp only [cfv, cfc] at *
   go_enter Tryz.func89, Tryz.ntmps89
   go_wp2_with fail
   go_at_call 34
   refine (K _).mono ?_
   rintro e v1 ⟨rfl, hb⟩
   have T1 := A0.out.trans hb
   clear hb K
   have S1 := T1.cells
   simp only at S1
   go_wp2_with fail
   have D1 := T1.drew
   have SD := D1.cells
   go_region_held3 (fun v => v.cell? ⟨w.heap.size, 0, none⟩ = some (.int .i64 cw) ∧ v.cell? ⟨w.heap.size, 1, none⟩ = some (.int .i64 ch) ∧ v.cell? ⟨w.heap.size, 2, none⟩ = some (.int .i64 cl) ∧ v.cell? ⟨w.heap.size, 3, none⟩ = some (.int .i64 cd) ∧ v.cell? ⟨w.heap.size, 4, none⟩ = some (.int .i64 cr) ∧ v.cell? ⟨w.heap.size, 5, none⟩ = some (.int .i64 ci) ∧ v.cell? ⟨w.heap.size, 6, none⟩ = some (.int .i64 cb) ∧ v.cell? ⟨w.heap.size, 7, none⟩ = some (.bool we) ∧ v.cell? ⟨w.heap.size, 8, none⟩ = some (.bool ca))
    (first | exact S3 | exact S2 | exact SD | go_keep)
    (first
     | (go_at_call 114; (with_reducible refine (X1 _).mono ?_); rintro e v2 ⟨rfl, hb2⟩; have T2 := D1.trans hb2; have S2 := T2.cells)
     | (go_at_call 115; (with_reducible refine (Y1 _).mono ?_); rintro e v3 ⟨rfl, hb3⟩; have T3 := T2.trans hb3; have S3 := T3.cells))
   clear S1 SD S2 D1
   obtain ⟨x0, x1, x2, x3, x4, x5, x6, x7, x8⟩ := S3
   go_wp2_with fail
   go_at_call 116
   refine (T _).mono ?_
   rintro e v4 ⟨rfl, hb⟩
   have HB : Hid (Below w.heap.size w v4) := (T3.trans hb).below
   clear hb
   go_wp2
   go_ret2
   exact ⟨rfl, HB.out⟩
  ·rw [show dx 4 = 0 from rfl, show dy 4 = -1 from rfl, Int.add_zero] at T
   obtain ⟨cw, ch, cl, cd, cr, ci, cb, we, ca⟩ := c
   simp only [cfv, cfc] at *
   go_enter Tryz.func89, Tryz.ntmps89
   go_wp2_with fail
   go_at_call 34
   refine (K _).mono ?_
   rintro e v1 ⟨rfl, hb⟩
   have T1 := A0.out.trans hb
   clear hb K
   have S1 := T1.cells
   simp only at S1
   go_wp2_with fail
   have D1 := T1.drew
   have SD := D1.cells
   go_region_held3 (fun v => v.cell? ⟨w.heap.size, 0, none⟩ = some (.int .i64 cw) ∧ v.cell? ⟨w.heap.size, 1, none⟩ = some (.int .i64 ch) ∧ v.cell? ⟨w.heap.size, 2, none⟩ = some (.int .i64 cl) ∧ v.cell? ⟨w.heap.size, 3, none⟩ = some (.int .i64 cd) ∧ v.cell? ⟨w.heap.size, 4, none⟩ = some (.int .i64 cr) ∧ v.cell? ⟨w.heap.size, 5, none⟩ = some (.int .i64 ci) ∧ v.cell? ⟨w.heap.size, 6, none⟩ = some (.int .i64 cb) ∧ v.cell? ⟨w.heap.size, 7, none⟩ = some (.bool we) ∧ v.cell? ⟨w.heap.size, 8, none⟩ = some (.bool ca))
    (first | exact S3 | exact S2 | exact SD | go_keep)
    (first
     | (go_at_call 114; (with_reducible refine (X1 _).mono ?_); rintro e v2 ⟨rfl, hb2⟩; have T2 := D1.trans hb2; have S2 := T2.cells)
     | (go_at_call 115; (with_reducible refine (Y1 _).mono ?_); rintro e v3 ⟨rfl, hb3⟩; have T3 := T2.trans hb3; have S3 := T3.cells))
   clear S1 SD S2 D1
   obtain ⟨x0, x1, x2, x3, x4, x5, x6, x7, x8⟩ := S3
   go_wp2_with fail
   go_at_call 116
   refine (T _).mono ?_
   rintro e v4 ⟨rfl, hb⟩
   have HB : Hid (Below w.heap.size w v4) := (T3.trans hb).below
   clear hb
   go_wp2
   go_ret2
   exact ⟨rfl, HB.out⟩
end Go.Proofs.YtmmegmonmilkcaaGreatDoor.G
