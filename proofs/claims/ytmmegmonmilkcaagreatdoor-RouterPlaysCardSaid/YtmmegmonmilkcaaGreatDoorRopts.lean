/-
 The walk of the document's Options.
-/
import Derived.Test.YtmmegmonmilkcaaGreatDoorGrid
import Derived.IntWalk
namespace Go.Proofs.YtmmegmonmilkcaaGreatDoor.G
open Go.RowKit
theorem opt_off {c : Cf} {a b : Int} (h1 : isN c a = true) (h2 : isN c b = true) (hne : ¬ a = b) :
  opt c a b = if ox c a b < 0 then [2] else if 0 < ox c a b then (1 :: if c.we = true then optY (oy c a b) else []) else optY (oy c a b) := by
 unfold opt
 rw [h1, h2]
 simp [hne]
theorem optY_pos {d : Int} (h : 0 < d) : optY d = [3] := by unfold optY; rw [if_pos h]
theorem optY_neg {d : Int} (h : d < 0) : optY d = [4] := by unfold optY; rw [if_neg (by omega), if_pos h]
theorem optY_no {d : Int} (h : ¬ 0 < d) (h' : ¬ d < 0) : optY d = [] := by unfold optY; rw [if_neg h, if_neg h']
theorem wrap_off {a b : Int} (a0 : 0 ≤ a ∧ a ≤ 63) (b0 : 0 ≤ b ∧ b ≤ 63) : IntKind.i64.wrap (b - a) = b - a := IntWalk.i64_in _ (by omega)
set_option maxRecDepth 100000 in
set_option maxHeartbeats 2000000 in
theorem roptions_any (c : Cf) (a b : Int) (w : World) : Calls Tryz.prog 90 #[cfv c, .int .i64 a, .int .i64 b] w (Row w (opt c a b)) := by
 obtain ⟨i0, ki, hz0, hz1, hz2⟩ := info_parts Tryz.info3
 have K1 := ris_any c a
 have K2 := ris_any c b
 have A0 : Hid (At w c (w.alloc (.cells (cfc c) 23))) := At.start w c
 cases h1 : isN c a with
 | false =>
  rw [opt_no (show (isN c a && isN c b) = false by rw [h1]; rfl)]
  rw [h1] at K1
  clear h1 K2 ki
  obtain ⟨cw, ch, cl, cd, cr, ci, cb, we, ca⟩ := c
  simp only [cfv, cfc] at *
  go_enter Tryz.func90, Tryz.ntmps90
  go_wp2_with fail
  go_at_call 34
  refine (K1 _).mono ?_
  rintro e v1 ⟨rfl, hb⟩
  have HA1 : Hid (At w _ v1) := A0.out.trans hb
  clear hb K1
  go_wp2
  go_ret
  exact Row.mk (Own.nil _ _ _) HA1.out.below
 | true =>
 cases h2 : isN c b with
 | false =>
  rw [opt_no (show (isN c a && isN c b) = false by rw [h1, h2]; rfl)]
  rw [h1] at K1
  rw [h2] at K2
  clear h1 h2 ki
  obtain ⟨cw, ch, cl, cd, cr, ci, cb, we, ca⟩ := c
  simp only [cfv, cfc] at *
  go_enter Tryz.func90, Tryz.ntmps90
  go_wp2_with fail
  go_at_call 34
  refine (K1 _).mono ?_
  rintro e v1 ⟨rfl, hb⟩
  have A1 := A0.out.trans hb
  clear hb K1
  obtain ⟨x0, x1, x2, x3, x4, x5, x6, x7, x8⟩ := A1.cells
  have HA1 : Hid (At w _ v1) := A1
  clear A1
  simp only at x0 x1 x2 x3 x4 x5 x6 x7 x8
  go_wp2_with fail
  go_at_call 34
  refine (K2 _).mono ?_
  rintro e v2 ⟨rfl, hb⟩
  have HA2 : Hid (At w _ v2) := HA1.out.trans hb
  clear hb K2 x0 x1 x2 x3 x4 x5 x6 x7 x8
  go_wp2
  go_ret
  exact Row.mk (Own.nil _ _ _) HA2.out.below
 | true =>
  by_cases hne : a = b
  ·subst hne
   rw [opt_self h1]
   rw [h1] at K1
   clear h1 h2 ki K2
   obtain ⟨cw, ch, cl, cd, cr, ci, cb, we, ca⟩ := c
   simp only [cfv, cfc] at *
   go_enter Tryz.func90, Tryz.ntmps90
   go_wp2_with fail
   go_at_call 34
   refine (K1 _).mono ?_
   rintro e v1 ⟨rfl, hb⟩
   have A1 := A0.out.trans hb
   clear hb
   obtain ⟨x0, x1, x2, x3, x4, x5, x6, x7, x8⟩ := A1.cells
   have HA1 : Hid (At w _ v1) := A1
   clear A1
   simp only at x0 x1 x2 x3 x4 x5 x6 x7 x8
   go_wp2_with fail
   go_at_call 34
   refine (K1 _).mono ?_
   rintro e v2 ⟨rfl, hb⟩
   have HA2 : Hid (At w _ v2) := HA1.out.trans hb
   have hsz : w.heap.size ≤ v2.heap.size := HA2.out.below.size
   clear hb K1 x0 x1 x2 x3 x4 x5 x6 x7 x8
   go_wp2
   go_ret
   exact Row.of (l := [0]) rfl (Own.lit #[.int .i64 0] hsz (by simp)) (HA2.out.below.alloc hsz _)
  ·have X1 := rx_any c a h1
   have X2 := rx_any c b h2
   have Y1 := ry_any c a h1
   have Y2 := ry_any c b h2
   have e0 := opt_off h1 h2 hne
   have e1 := wrap_off (plx_in c a) (plx_in c b)
   have e2 := wrap_off (ply_in c a) (ply_in c b)
   obtain ⟨L, hL⟩ : ∃ L, opt c a b = L := ⟨_, rfl⟩
   rw [hL] at e0 ⊢
   change IntKind.i64.wrap (plx c b - plx c a) = ox c a b at e1
   change IntKind.i64.wrap (ply c b - ply c a) = oy c a b at e2
   rw [h1] at K1
   rw [h2] at K2
   clear h1 h2 hL
   generalize ox c a b = d at *
   generalize oy c a b = k at *
   generalize plx c a = X at *
   generalize ply c a = Y at *
   generalize plx c b = X' at *
   generalize ply c b = Y' at *
   obtain ⟨cw, ch, cl, cd, cr, ci, cb, we, ca⟩ := c
   have HL : Hid (L = if d < 0 then [2] else if 0 < d then (1 :: if we = true then optY k else []) else optY k) := e0
   clear e0
   simp only [cfv, cfc] at *
   go_enter Tryz.func90, Tryz.ntmps90
   go_wp2_with fail
   go_at_call 34
   refine (K1 _).mono ?_
   rintro e v1 ⟨rfl, hb⟩
   have A1 := A0.out.trans hb
   clear hb K1
   obtain ⟨x0, x1, x2, x3, x4, x5, x6, x7, x8⟩ := A1.cells
   have HA1 : Hid (At w _ v1) := A1
   clear A1
   simp only at x0 x1 x2 x3 x4 x5 x6 x7 x8
   go_wp2_with fail
   go_at_call 34
   refine (K2 _).mono ?_
   rintro e v2 ⟨rfl, hb⟩
   have T1 := HA1.out.trans hb
   clear hb K2 x0 x1 x2 x3 x4 x5 x6 x7 x8
   go_wp2_with fail
   have D1 := T1.drew
   have SD := D1.cells
   go_region_held3 (fun v => v.cell? ⟨w.heap.size, 0, none⟩ = some (.int .i64 cw) ∧ v.cell? ⟨w.heap.size, 1, none⟩ = some (.int .i64 ch) ∧ v.cell? ⟨w.heap.size, 2, none⟩ = some (.int .i64 cl) ∧ v.cell? ⟨w.heap.size, 3, none⟩ = some (.int .i64 cd) ∧ v.cell? ⟨w.heap.size, 4, none⟩ = some (.int .i64 cr) ∧ v.cell? ⟨w.heap.size, 5, none⟩ = some (.int .i64 ci) ∧ v.cell? ⟨w.heap.size, 6, none⟩ = some (.int .i64 cb) ∧ v.cell? ⟨w.heap.size, 7, none⟩ = some (.bool we) ∧ v.cell? ⟨w.heap.size, 8, none⟩ = some (.bool ca))
    (first | exact S4 | exact S3 | exact SD | go_keep)
    (first
     | (go_at_call 114; (with_reducible refine (X2 _).mono ?_); rintro e v3 ⟨rfl, hb3⟩; have T3 := D1.trans hb3; have S3 := T3.cells)
     | (go_at_call 114; (with_reducible refine (X1 _).mono ?_); rintro e v4 ⟨rfl, hb4⟩; have T4 := T3.trans hb4; have S4 := T4.cells))
   have HA4 : Hid (At w _ v4) := T4
   clear T1 D1 SD T3 S3 T4 S4 hb3 hb4 X1 X2
   have T1 := HA4.out
   go_wp2_with fail
   have D1 := T1.drew
   have SD := D1.cells
   go_region_held3 (fun v => v.cell? ⟨w.heap.size, 0, none⟩ = some (.int .i64 cw) ∧ v.cell? ⟨w.heap.size, 1, none⟩ = some (.int .i64 ch) ∧ v.cell? ⟨w.heap.size, 2, none⟩ = some (.int .i64 cl) ∧ v.cell? ⟨w.heap.size, 3, none⟩ = some (.int .i64 cd) ∧ v.cell? ⟨w.heap.size, 4, none⟩ = some (.int .i64 cr) ∧ v.cell? ⟨w.heap.size, 5, none⟩ = some (.int .i64 ci) ∧ v.cell? ⟨w.heap.size, 6, none⟩ = some (.int .i64 cb) ∧ v.cell? ⟨w.heap.size, 7, none⟩ = some (.bool we) ∧ v.cell? ⟨w.heap.size, 8, none⟩ = some (.bool ca))
    (first | exact S4 | exact S3 | exact SD | go_keep)
    (first
     | (go_at_call 115; (with_reducible refine (Y2 _).mono ?_); rintro e v5 ⟨rfl, hb3⟩; have T3 := D1.trans hb3; have S3 := T3.cells)
     | (go_at_call 115; (with_reducible refine (Y1 _).mono ?_); rintro e v6 ⟨rfl, hb4⟩; have T4 := T3.trans hb4; have S4 := T4.cells))
   have HA6 : Hid (At w _ v6) := T4
   clear T1 D1 SD T3 S3 T4 S4 hb3 hb4 Y1 Y2 HA4
   have hsz : w.heap.size ≤ v6.heap.size := HA6.out.below.size
   have hs1 : w.heap.size + 1 ≤ v6.heap.size := HA6.out.size
   have HN : Own 3 v6 (w.heap.size + 1) (.slice none 0 0) [] := Own.nil v6 (w.heap.size + 1) 3
   by_cases d0 : d < 0
   ·have hq : L = [2] := by rw [HL.out]; simp [d0]
    have HQ : Hid (L = [2]) := hq
    clear hq
    clear HL ki HN
    go_wp2
    go_ret
    exact Row.of (l := [2]) HQ.out (Own.lit #[.int .i64 2] hsz (by simp)) (HA6.out.below.alloc hsz _)
   ·by_cases d1 : 0 < d
    ·cases we with
     | false =>
      have hq : L = [1] := by rw [HL.out]; simp [d0, d1]
      have HQ : Hid (L = [1]) := hq
      clear hq
      clear HL
      go_wp2_with (at_builtin; refine wpList_app_one rfl (.tmp 43) (.tmp 44) 31 3 i0 (.int .i64 0) 8 rfl Tryz.underlying31 ki hz0 hz1 hz2 rfl (by decide) (w.heap.size + 1) v6 _ _ (.int .i64 1) rfl HN rfl rfl (by simp) hs1 ?_; intro uwb wb o1 kb; have ab : Hid (At w _ wb) := At.of (kb.2.1 _ HA6.out); have hswb : w.heap.size + 1 ≤ wb.heap.size := ab.out.size; clear kb; have x7 := ab.out.cells.2.2.2.2.2.2.2.1; simp only at x7)
      have O2 : Hid (Own 3 wb _ _ _) := o1
      clear o1
      go_ret
      exact Row.of HQ.out (O2.out.mono (by omega)) ab.out.below
     | true =>
      by_cases k0 : 0 < k
      ·have k1 : ¬ k < 0 := by omega
       have hq : L = [1, 3] := by rw [HL.out]; simp [d0, d1, optY_pos k0]
       have HQ : Hid (L = [1, 3]) := hq
       clear hq
       clear HL
       go_wp2_with (first | (at_builtin; refine wpList_app_one rfl (.tmp 43) (.tmp 44) 31 3 i0 (.int .i64 0) 8 rfl Tryz.underlying31 ki hz0 hz1 hz2 rfl (by decide) (w.heap.size + 1) v6 _ _ (.int .i64 1) rfl HN rfl rfl (by simp) hs1 ?_; intro uwb wb o1 kb; have ab : Hid (At w _ wb) := At.of (kb.2.1 _ HA6.out); have hswb : w.heap.size + 1 ≤ wb.heap.size := ab.out.size; clear kb; have x7 := ab.out.cells.2.2.2.2.2.2.2.1; simp only at x7) | (at_builtin; refine wpList_app_one rfl (.tmp 56) (.tmp 57) 31 3 i0 (.int .i64 0) 8 rfl Tryz.underlying31 ki hz0 hz1 hz2 rfl (by decide) (w.heap.size + 1) wb _ _ (.int .i64 3) rfl o1 rfl rfl (by simp) hswb ?_; intro uwc wc o2 kb; have abc : Hid (At w _ wc) := At.of (kb.2.1 _ ab.out); have hswc : w.heap.size + 1 ≤ wc.heap.size := abc.out.size; clear kb))
       have O2 : Hid (Own 3 wc _ _ _) := o2
       clear o2
       go_ret
       exact Row.of HQ.out (O2.out.mono (by omega)) abc.out.below
      ·by_cases k1 : k < 0
       ·skip
        have hq : L = [1, 4] := by rw [HL.out]; simp [d0, d1, optY_neg k1]
        have HQ : Hid (L = [1, 4]) := hq
        clear hq
        clear HL
        go_wp2_with (first | (at_builtin; refine wpList_app_one rfl (.tmp 43) (.tmp 44) 31 3 i0 (.int .i64 0) 8 rfl Tryz.underlying31 ki hz0 hz1 hz2 rfl (by decide) (w.heap.size + 1) v6 _ _ (.int .i64 1) rfl HN rfl rfl (by simp) hs1 ?_; intro uwb wb o1 kb; have ab : Hid (At w _ wb) := At.of (kb.2.1 _ HA6.out); have hswb : w.heap.size + 1 ≤ wb.heap.size := ab.out.size; clear kb; have x7 := ab.out.cells.2.2.2.2.2.2.2.1; simp only at x7) | (at_builtin; refine wpList_app_one rfl (.tmp 61) (.tmp 62) 31 3 i0 (.int .i64 0) 8 rfl Tryz.underlying31 ki hz0 hz1 hz2 rfl (by decide) (w.heap.size + 1) wb _ _ (.int .i64 4) rfl o1 rfl rfl (by simp) hswb ?_; intro uwc wc o2 kb; have abc : Hid (At w _ wc) := At.of (kb.2.1 _ ab.out); have hswc : w.heap.size + 1 ≤ wc.heap.size := abc.out.size; clear kb))
        have O2 : Hid (Own 3 wc _ _ _) := o2
        clear o2
        go_ret
        exact Row.of HQ.out (O2.out.mono (by omega)) abc.out.below
       ·skip
        have hq : L = [1] := by rw [HL.out]; simp [d0, d1, optY_no k0 k1]
        have HQ : Hid (L = [1]) := hq
        clear hq
        clear HL
        go_wp2_with (at_builtin; refine wpList_app_one rfl (.tmp 43) (.tmp 44) 31 3 i0 (.int .i64 0) 8 rfl Tryz.underlying31 ki hz0 hz1 hz2 rfl (by decide) (w.heap.size + 1) v6 _ _ (.int .i64 1) rfl HN rfl rfl (by simp) hs1 ?_; intro uwb wb o1 kb; have ab : Hid (At w _ wb) := At.of (kb.2.1 _ HA6.out); have hswb : w.heap.size + 1 ≤ wb.heap.size := ab.out.size; clear kb; have x7 := ab.out.cells.2.2.2.2.2.2.2.1; simp only at x7)
        have O2 : Hid (Own 3 wb _ _ _) := o1
        clear o1
        go_ret
        exact Row.of HQ.out (O2.out.mono (by omega)) ab.out.below
    ·by_cases k0 : 0 < k
     ·have k1 : ¬ k < 0 := by omega
      have hq : L = [3] := by rw [HL.out]; simp [d0, d1, optY_pos k0]
      have HQ : Hid (L = [3]) := hq
      clear hq
      clear HL
      go_wp2_with (at_builtin; refine wpList_app_one rfl (.tmp 56) (.tmp 57) 31 3 i0 (.int .i64 0) 8 rfl Tryz.underlying31 ki hz0 hz1 hz2 rfl (by decide) (w.heap.size + 1) v6 _ _ (.int .i64 3) rfl HN rfl rfl (by simp) hs1 ?_; intro uwc wc o2 kb; have abc : Hid (At w _ wc) := At.of (kb.2.1 _ HA6.out); have hswc : w.heap.size + 1 ≤ wc.heap.size := abc.out.size; clear kb)
      have O2 : Hid (Own 3 wc _ _ _) := o2
      clear o2
      go_ret
      exact Row.of HQ.out (O2.out.mono (by omega)) abc.out.below
     ·by_cases k1 : k < 0
      ·skip
       have hq : L = [4] := by rw [HL.out]; simp [d0, d1, optY_neg k1]
       have HQ : Hid (L = [4]) := hq
       clear hq
       clear HL
       go_wp2_with (at_builtin; refine wpList_app_one rfl (.tmp 61) (.tmp 62) 31 3 i0 (.int .i64 0) 8 rfl Tryz.underlying31 ki hz0 hz1 hz2 rfl (by decide) (w.heap.size + 1) v6 _ _ (.int .i64 4) rfl HN rfl rfl (by simp) hs1 ?_; intro uwc wc o2 kb; have abc : Hid (At w _ wc) := At.of (kb.2.1 _ HA6.out); have hswc : w.heap.size + 1 ≤ wc.heap.size := abc.out.size; clear kb)
       have O2 : Hid (Own 3 wc _ _ _) := o2
       clear o2
       go_ret
       exact Row.of HQ.out (O2.out.mono (by omega)) abc.out.below
      ·skip
       have hq : L = [] := by rw [HL.out]; simp [d0, d1, optY_no k0 k1]
       have HQ : Hid (L = []) := hq
       clear hq
       clear HL
       have O2 : Hid (Own 3 v6 _ _ _) := HN
       clear ki HN
       go_wp2
       go_ret
       exact Row.of HQ.out (O2.out.mono (by omega)) HA6.out.below
end Go.Proofs.YtmmegmonmilkcaaGreatDoor.G
