/-
  The walks of the document's Label, of, Node. (Written by gen_rlab.py.)
-/
import Derived.Test.YtcebfkkpclnmoaaDoorSPlain
import Derived.Test.YtcebfkkpclnmoaaDoorRplace
import Derived.Deep.RegionHeld3
namespace Go.Proofs.YtcebfkkpclnmoaaDoor
open Go.RowKit

set_option maxHeartbeats 1000000 in
theorem rlabel_any (c : Cf) (n : Int) (w : World) : Calls Tryd.prog 12 #[cfv c, .int .i64 n] w fun e w' => e = .returned (.tuple #[.int .i64 (lb c n), .int .i64 (ple c n)]) ∧ Below w.heap.size w w' := by
  have K1 := ris_any c n
  have A0 : Hid (At w c (w.alloc (.cells (cfc c) 23))) := At.start w c
  cases h : isN c n with
  | false =>
    have ee : ple c n = 5 := by unfold ple; rw [h]; rfl
    rw [ee, lb_no h]
    rw [h] at K1
    clear ee h
    obtain ⟨cw, ch, cl, cd, cr, ci, cb, we, ca⟩ := c
    simp only [cfv, cfc] at *
    go_enter Tryd.func12, Tryd.ntmps12
    go_wp2_with fail
    go_at_call 30
    refine (K1 _).mono ?_
    rintro e v1 ⟨rfl, hb⟩
    have HA1 : Hid (At w _ v1) := A0.out.trans hb
    clear hb K1 
    go_wp2
    go_ret2
    exact ⟨rfl, HA1.out.below⟩
  | true =>
    have ee : ple c n = 0 := by unfold ple; rw [h]; rfl
    have KX := rx_any c n h
    have KY := ry_any c n h
    rw [ee]
    rw [h] at K1
    obtain ⟨hc, g1, g2, g3, g4, _⟩ := place_of h
    obtain ⟨_, t1, t2, _, _⟩ := inP_ok (tx_in h)
    obtain ⟨m1, m2, m3, m4⟩ := node_in (tx_in h)
    have el : lb c n = ply c n * c.w + tx c n := by unfold lb; rw [h]; rfl
    have hw := (fits_of hc).w2
    have hy := (ply_in c n).2
    have hm : (ply c n).tmod 2 = ply c n % 2 := Int.tmod_eq_emod_of_nonneg g3
    rw [el]
    unfold tx at t1 t2 m2 ⊢
    clear el ee h hc g4 m4
    generalize plx c n = X at *
    generalize ply c n = Y at *
    obtain ⟨M, hM⟩ : ∃ M : Int, Y * c.w = M := ⟨_, rfl⟩
    rw [hM] at m1 m2 m3 ⊢
    clear m2
    by_cases ho : Y % 2 = 1
    · rw [if_pos ho] at t1 t2 ⊢
      rw [ho] at hm
      obtain ⟨cw, ch, cl, cd, cr, ci, cb, we, ca⟩ := c
      simp only [cfv, cfc] at *
      clear ho
      go_enter Tryd.func12, Tryd.ntmps12
      go_wp2_with fail
      go_at_call 30
      refine (K1 _).mono ?_
      rintro e v1 ⟨rfl, hb⟩
      have HA1 : Hid (At w _ v1) := A0.out.trans hb
      clear hb K1 
      go_wp2_with fail
      have D1 := HA1.out.drew
      have SD := D1.cells
      go_region_held3 (fun v => v.cell? ⟨w.heap.size, 0, none⟩ = some (.int .i64 cw) ∧ v.cell? ⟨w.heap.size, 1, none⟩ = some (.int .i64 ch) ∧ v.cell? ⟨w.heap.size, 2, none⟩ = some (.int .i64 cl) ∧ v.cell? ⟨w.heap.size, 3, none⟩ = some (.int .i64 cd) ∧ v.cell? ⟨w.heap.size, 4, none⟩ = some (.int .i64 cr) ∧ v.cell? ⟨w.heap.size, 5, none⟩ = some (.int .i64 ci) ∧ v.cell? ⟨w.heap.size, 6, none⟩ = some (.int .i64 cb) ∧ v.cell? ⟨w.heap.size, 7, none⟩ = some (.bool we) ∧ v.cell? ⟨w.heap.size, 8, none⟩ = some (.bool ca))
        (first | exact S4 | exact S3 | exact SD | go_keep)
        (first
          | (go_at_call 31; (with_reducible refine (KX _).mono ?_); rintro e v3 ⟨rfl, hbv3⟩; have T3 := D1.trans hbv3; have S3 := T3.cells)
          | (go_at_call 32; (with_reducible refine (KY _).mono ?_); rintro e v4 ⟨rfl, hbv4⟩; have T4 := T3.trans hbv4; have S4 := T4.cells))
      have HA2 : Hid (At w _ v4) := T4
      clear T4 T3 D1 SD S3 S4 hbv3 hbv4 KX KY
      obtain ⟨x0, x1, x2, x3, x4, x5, x6, x7, x8⟩ := HA2.out.cells
      simp only at x0 x1 x2 x3 x4 x5 x6 x7 x8
      go_wp2
      go_ret2
      exact ⟨rfl, HA2.out.below⟩
    · rw [if_neg ho] at t1 t2 ⊢
      have h0 : Y.tmod 2 = 0 := by omega
      clear hm
      obtain ⟨cw, ch, cl, cd, cr, ci, cb, we, ca⟩ := c
      simp only [cfv, cfc] at *
      clear ho
      go_enter Tryd.func12, Tryd.ntmps12
      go_wp2_with fail
      go_at_call 30
      refine (K1 _).mono ?_
      rintro e v1 ⟨rfl, hb⟩
      have HA1 : Hid (At w _ v1) := A0.out.trans hb
      clear hb K1 
      go_wp2_with fail
      have D1 := HA1.out.drew
      have SD := D1.cells
      go_region_held3 (fun v => v.cell? ⟨w.heap.size, 0, none⟩ = some (.int .i64 cw) ∧ v.cell? ⟨w.heap.size, 1, none⟩ = some (.int .i64 ch) ∧ v.cell? ⟨w.heap.size, 2, none⟩ = some (.int .i64 cl) ∧ v.cell? ⟨w.heap.size, 3, none⟩ = some (.int .i64 cd) ∧ v.cell? ⟨w.heap.size, 4, none⟩ = some (.int .i64 cr) ∧ v.cell? ⟨w.heap.size, 5, none⟩ = some (.int .i64 ci) ∧ v.cell? ⟨w.heap.size, 6, none⟩ = some (.int .i64 cb) ∧ v.cell? ⟨w.heap.size, 7, none⟩ = some (.bool we) ∧ v.cell? ⟨w.heap.size, 8, none⟩ = some (.bool ca))
        (first | exact S4 | exact S3 | exact SD | go_keep)
        (first
          | (go_at_call 31; (with_reducible refine (KX _).mono ?_); rintro e v3 ⟨rfl, hbv3⟩; have T3 := D1.trans hbv3; have S3 := T3.cells)
          | (go_at_call 32; (with_reducible refine (KY _).mono ?_); rintro e v4 ⟨rfl, hbv4⟩; have T4 := T3.trans hbv4; have S4 := T4.cells))
      have HA2 : Hid (At w _ v4) := T4
      clear T4 T3 D1 SD S3 S4 hbv3 hbv4 KX KY
      obtain ⟨x0, x1, x2, x3, x4, x5, x6, x7, x8⟩ := HA2.out.cells
      simp only at x0 x1 x2 x3 x4 x5 x6 x7 x8
      go_wp2
      go_ret2
      exact ⟨rfl, HA2.out.below⟩

set_option maxHeartbeats 1000000 in
theorem of_any (c : Cf) (n : Int) (w : World) : Calls Tryd.prog 34 #[cfv c, .int .i64 n] w fun e w' => e = .returned (.int .i64 (lb c n)) ∧ Below w.heap.size w w' := by
  have K1 := rlabel_any c n
  have A0 : Hid (At w c (w.alloc (.cells (cfc c) 23))) := At.start w c
  generalize lb c n = R at *
  generalize ple c n = E at *
  obtain ⟨cw, ch, cl, cd, cr, ci, cb, we, ca⟩ := c
  simp only [cfv, cfc] at *
  go_enter Tryd.func34, Tryd.ntmps34
  go_wp2_with fail
  go_at_call 12
  refine (K1 _).mono ?_
  rintro e v1 ⟨rfl, hb⟩
  have HA1 : Hid (At w _ v1) := A0.out.trans hb
  clear hb K1 
  go_wp2
  go_ret
  exact ⟨rfl, HA1.out.below⟩

theorem rn_found {c : Cf} {l k : Int} (hk : isN c k = true) (h : lb c k = l) : lb c l = k ∧ ple c l = 0 := by
  subst h
  exact ⟨lb_back hk, by unfold ple; rw [(lb_ok hk).1]; rfl⟩
theorem rn_none {c : Cf} {l : Int} (h : ∀ j : Nat, (j : Int) < nod c → lb c j ≠ l) : lb c l = 0 ∧ ple c l = 5 := by
  have hn : isN c l = false := by
    cases hl : isN c l with
    | false => rfl
    | true =>
      exfalso
      have a := lb_in c l
      have e := lb_back hl
      have b := lb_lt hl
      have ej : (((lb c l).toNat : Nat) : Int) = lb c l := by omega
      exact h (lb c l).toNat (by omega) (by rw [ej]; exact e)
  exact ⟨lb_no hn, by unfold ple; rw [hn]; rfl⟩

set_option maxRecDepth 100000 in
set_option maxHeartbeats 1000000 in
theorem rnode_any (c : Cf) (l : Int) (w : World) : Calls Tryd.prog 14 #[cfv c, .int .i64 l] w fun e w' => e = .returned (.tuple #[.int .i64 (lb c l), .int .i64 (ple c l)]) ∧ Below w.heap.size w w' := by
  have K1 := rnodes_any c
  have OF := fun (k : Nat) => of_any c (k : Int)
  have A0 : Hid (At w c (w.alloc (.cells (cfc c) 23))) := At.start w c
  have FO : ∀ k : Nat, (k : Int) < nod c → lb c k = l → lb c l = k ∧ ple c l = 0 := fun k hk h => rn_found (by unfold isN; simp [hk]) h
  have NO := @rn_none c l
  obtain ⟨n1, n2⟩ := nod_in c
  generalize nod c = N at *
  generalize lb c l = R at *
  generalize ple c l = E at *
  obtain ⟨LB, hLB⟩ : ∃ LB : Nat → Int, ∀ k : Nat, lb c (k : Int) = LB k := ⟨fun k => lb c (k : Int), fun _ => rfl⟩
  simp only [hLB] at OF FO NO
  clear hLB
  have HFO : Hid (∀ k : Nat, (k : Int) < N → LB k = l → R = k ∧ E = 0) := FO
  have HNO : Hid ((∀ j : Nat, (j : Int) < N → LB j ≠ l) → R = 0 ∧ E = 5) := NO
  clear FO NO
  obtain ⟨cw, ch, cl, cd, cr, ci, cb, we, ca⟩ := c
  simp only [cfv, cfc] at *
  have HA0 : Hid (At w ⟨cw, ch, cl, cd, cr, ci, cb, we, ca⟩ (w.alloc (.cells #[.int .i64 cw, .int .i64 ch, .int .i64 cl, .int .i64 cd, .int .i64 cr, .int .i64 ci, .int .i64 cb, .bool we, .bool ca] 23))) := A0
  clear A0
  go_enter Tryd.func14, Tryd.ntmps14
  go_wp2_with fail
  go_loopw [6] (fun i wr => ∃ k : Nat, (k : Int) ≤ N ∧ i = .int .i64 k ∧ At w ⟨cw, ch, cl, cd, cr, ci, cb, we, ca⟩ wr ∧ Hid (∀ j : Nat, j < k → LB j ≠ l)) (fun i _ => N.toNat - (RowKit.intOf i).toNat)
  case atStart => exact ⟨0, by omega, rfl, HA0.out, fun j hj => absurd hj (Nat.not_lt_zero _)⟩
  case round =>
    obtain ⟨k, hk, rfl, hat, HK⟩ := hrel
    have HAT : Hid (At w ⟨cw, ch, cl, cd, cr, ci, cb, we, ca⟩ wr) := hat
    clear hat
    obtain ⟨x0, x1, x2, x3, x4, x5, x6, x7, x8⟩ := HAT.out.cells
    simp only at x0 x1 x2 x3 x4 x5 x6 x7 x8
    by_cases hlt : (k : Int) < N
    · have K2 := OF k
      have y1 := HFO.out k hlt
      clear OF
      generalize hL : LB k = L at *
      go_wp2_with fail
      go_at_call 33
      refine (K1 _).mono ?_
      rintro e va ⟨rfl, hb⟩
      have HB1 : Hid (At w _ va) := HAT.out.trans hb
      clear hb K1 HAT x0 x1 x2 x3 x4 x5 x6 x7 x8 
      obtain ⟨x0, x1, x2, x3, x4, x5, x6, x7, x8⟩ := HB1.out.cells
      simp only at x0 x1 x2 x3 x4 x5 x6 x7 x8
      by_cases he : L = l
      · subst he
        obtain ⟨rfl, rfl⟩ := y1 rfl
        clear y1
        go_wp2_with fail
        go_at_call 34
        refine (K2 _).mono ?_
        rintro e vb ⟨rfl, hb⟩
        have HB2 : Hid (At w _ vb) := HB1.out.trans hb
        clear hb K2 HB1 x0 x1 x2 x3 x4 x5 x6 x7 x8 
        go_wp2
        go_ret2
        exact ⟨rfl, HB2.out.below⟩
      · have he' : (L == l) = false := by simp [he]
        clear y1
        have HL : Hid (LB k ≠ l) := by rw [hL]; exact he
        clear hL
        go_wp2_with fail
        go_at_call 34
        refine (K2 _).mono ?_
        rintro e vb ⟨rfl, hb⟩
        have HB2 : Hid (At w _ vb) := HB1.out.trans hb
        clear hb K2 HB1 x0 x1 x2 x3 x4 x5 x6 x7 x8 
        go_wp2
        go_roundw
        case rel =>
          refine ⟨k + 1, by omega, by go_num, HB2.out, (show Hid _ from fun j hj => ?_)⟩
          by_cases e : j = k
          · subst e; exact HL.out
          · exact HK.out j (by omega)
        case measure => simp [RowKit.intOf]; omega
    · have hN : N = k := by omega
      obtain ⟨rfl, rfl⟩ := HNO.out (fun j hj => HK.out j (by omega))
      subst hN
      go_wp2_with fail
      go_at_call 33
      refine (K1 _).mono ?_
      rintro e va ⟨rfl, hb⟩
      have HB1 : Hid (At w _ va) := HAT.out.trans hb
      clear hb K1 HAT x0 x1 x2 x3 x4 x5 x6 x7 x8 
      obtain ⟨x0, x1, x2, x3, x4, x5, x6, x7, x8⟩ := HB1.out.cells
      simp only at x0 x1 x2 x3 x4 x5 x6 x7 x8
      go_wp2
      go_ret2
      exact ⟨rfl, HB1.out.below⟩
end Go.Proofs.YtcebfkkpclnmoaaDoor
