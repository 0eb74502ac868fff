/-
 The walks of the document's Label, of, Node. (Written by gen_rlab.py.)
-/
import Derived.Test.YtmmegmonmilkcaaGreatDoorGrid
import Derived.Deep.RegionHeld3
namespace Go.Proofs.YtmmegmonmilkcaaGreatDoor.G
open Go.RowKit
set_option maxHeartbeats 1000000 in
theorem rlabel_any (c : Cf) (n : Int) (w : World) : Calls Tryz.prog 113 #[cfv c, .int .i64 n] w fun e w' => e = .returned (.tuple #[.int .i64 (lb c n), .int .i64 (ple c n)]) ∧ Below w.heap.size w w' := by
 have K1 := ris_any c n
 have A0 : Hid (At w c (w.alloc (.cells (cfc c) 23))) := At.start w c
 cases h : isN c n with
 | false =>
  have ee : ple c n = 5 := by unfold ple; rw [h]; rfl
  rw [ee, lb_no h]
  rw [h] at K1
  clear ee h
  obtain ⟨cw, ch, cl, cd, cr, ci, cb, we, ca⟩ := c
  simp only [cfv, cfc] at *
  go_enter Tryz.func113, Tryz.ntmps113
  go_wp2_with fail
  go_at_call 34
  refine (K1 _).mono ?_
  rintro e v1 ⟨rfl, hb⟩
  have HA1 : Hid (At w _ v1) := A0.out.trans hb
  clear hb K1 
  go_wp2
  go_ret2
  exact ⟨rfl, HA1.out.below⟩
 | true =>
  have ee : ple c n = 0 := by unfold ple; rw [h]; rfl
  have KX := rx_any c n h
  have KY := ry_any c n h
  rw [ee]
  rw [h] at K1
  obtain ⟨hc, g1, g2, g3, g4, _⟩ := place_of h
  obtain ⟨_, t1, t2, _, _⟩ := inP_ok (tx_in h)
  obtain ⟨m1, m2, m3, m4⟩ := node_in (tx_in h)
  have el : lb c n = ply c n * c.w + tx c n := by unfold lb; rw [h]; rfl
  have hw := (fits_of hc).w2
  have hy := (ply_in c n).2
  have hm : (ply c n).tmod 2 = ply c n % 2 := Int.tmod_eq_emod_of_nonneg g3
  rw [el]
  unfold tx at t1 t2 m2 ⊢
  clear el ee h hc g4 m4
  generalize plx c n = X at *
  generalize ply c n = Y at *
  obtain ⟨M, hM⟩ : ∃ M : Int, Y * c.w = M := ⟨_, rfl⟩
  rw [hM] at m1 m2 m3 ⊢
  clear m2
  by_cases ho : Y % 2 = 1
  ·rw [if_pos ho] at t1 t2 ⊢
   rw [ho] at hm
   obtain ⟨cw, ch, cl, cd, cr, ci, cb, we, ca⟩ := c
   simp only [cfv, cfc] at *
   clear ho
   go_enter Tryz.func113, Tryz.ntmps113
   go_wp2_with fail
   go_at_call 34
   refine (K1 _).mono ?_
   rintro e v1 ⟨rfl, hb⟩
   have HA1 : Hid (At w _ v1) := A0.out.trans hb
   clear hb K1 
   go_wp2_with fail
   have D1 := HA1.out.drew
   have SD := D1.cells
   go_region_held3 (fun v => v.cell? ⟨w.heap.size, 0, none⟩ = some (.int .i64 cw) ∧ v.cell? ⟨w.heap.size, 1, none⟩ = some (.int .i64 ch) ∧ v.cell? ⟨w.heap.size, 2, none⟩ = some (.int .i64 cl) ∧ v.cell? ⟨w.heap.size, 3, none⟩ = some (.int .i64 cd) ∧ v.cell? ⟨w.heap.size, 4, none⟩ = some (.int .i64 cr) ∧ v.cell? ⟨w.heap.size, 5, none⟩ = some (.int .i64 ci) ∧ v.cell? ⟨w.heap.size, 6, none⟩ = some (.int .i64 cb) ∧ v.cell? ⟨w.heap.size, 7, none⟩ = some (.bool we) ∧ v.cell? ⟨w.heap.size, 8, none⟩ = some (.bool ca))
    (first | exact S4 | exact S3 | exact SD | go_keep)
    (first
     | (go_at_call 114; (with_reducible refine (KX _).mono ?_); rintro e v3 ⟨rfl, hbv3⟩; have T3 := D1.trans hbv3; have S3 := T3.cells)
     | (go_at_call 115; (with_reducible refine (KY _).mono ?_); rintro e v4 ⟨rfl, hbv4⟩; have T4 := T3.trans hbv4; have S4 := T4.cells))
   have HA2 : Hid (At w _ v4) := T4
   clear T4 T3 D1 SD S3 S4 hbv3 hbv4 KX KY
   obtain ⟨x0, x1, x2, x3, x4, x5, x6, x7, x8⟩ := HA2.out.cells
   simp only at x0 x1 x2 x3 x4 x5 x6 x7 x8
   go_wp2
   go_ret2
   exact ⟨rfl, HA2.out.below⟩
  ·rw [if_neg ho] at t1 t2 ⊢
   have h0 : Y.tmod 2 = 0 := by omega
   clear hm
   obtain ⟨cw, ch, cl, cd, cr, ci, cb, we, ca⟩ := c
   simp only [cfv, cfc] at *
   clear ho
   go_enter Tryz.func113, Tryz.ntmps113
   go_wp2_with fail
   go_at_call 34
   refine (K1 _).mono ?_
   rintro e v1 ⟨rfl, hb⟩
   have HA1 : Hid (At w _ v1) := A0.out.trans hb
   clear hb K1 
   go_wp2_with fail
   have D1 := HA1.out.drew
   have SD := D1.cells
   go_region_held3 (fun v => v.cell? ⟨w.heap.size, 0, none⟩ = some (.int .i64 cw) ∧ v.cell? ⟨w.heap.size, 1, none⟩ = some (.int .i64 ch) ∧ v.cell? ⟨w.heap.size, 2, none⟩ = some (.int .i64 cl) ∧ v.cell? ⟨w.heap.size, 3, none⟩ = some (.int .i64 cd) ∧ v.cell? ⟨w.heap.size, 4, none⟩ = some (.int .i64 cr) ∧ v.cell? ⟨w.heap.size, 5, none⟩ = some (.int .i64 ci) ∧ v.cell? ⟨w.heap.size, 6, none⟩ = some (.int .i64 cb) ∧ v.cell? ⟨w.heap.size, 7, none⟩ = some (.bool we) ∧ v.cell? ⟨w.heap.size, 8, none⟩ = some (.bool ca))
    (first | exact S4 | exact S3 | exact SD | go_keep)
    (first
     | (go_at_call 114; (with_reducible refine (KX _).mono ?_); rintro e v3 ⟨rfl, hbv3⟩; have T3 := D1.trans hbv3; have S3 := T3.cells)
     | (go_at_call 115; (with_reducible refine (KY _).mono ?_); rintro e v4 ⟨rfl, hbv4⟩; have T4 := T3.trans hbv4; have S4 := T4.cells))
   have HA2 : Hid (At w _ v4) := T4
   clear T4 T3 D1 SD S3 S4 hbv3 hbv4 KX KY
   obtain ⟨x0, x1, x2, x3, x4, x5, x6, x7, x8⟩ := HA2.out.cells
   simp only at x0 x1 x2 x3 x4 x5 x6 x7 x8
   go_wp2
   go_ret2
   exact ⟨rfl, HA2.out.below⟩
set_option maxHeartbeats 1000000 in
theorem of_any (c : Cf) (n : Int) (w : World) : Calls Tryz.prog 88 #[cfv c, .int .i64 n] w fun e w' => e = .returned (.int .i64 (lb c n)) ∧ Below w.heap.size w w' := by
 have K1 := rlabel_any c n
 have A0 : Hid (At w c (w.alloc (.cells (cfc c) 23))) := At.start w c
 generalize lb c n = R at *
 generalize ple c n = E at *
 obtain ⟨cw, ch, cl, cd, cr, ci, cb, we, ca⟩ := c
 simp only [cfv, cfc] at *
 go_enter Tryz.func88, Tryz.ntmps88
 go_wp2_with fail
 go_at_call 113
 refine (K1 _).mono ?_
 rintro e v1 ⟨rfl, hb⟩
 have HA1 : Hid (At w _ v1) := A0.out.trans hb
 clear hb K1 
 go_wp2
 go_ret
 exact ⟨rfl, HA1.out.below⟩
end Go.Proofs.YtmmegmonmilkcaaGreatDoor.G
