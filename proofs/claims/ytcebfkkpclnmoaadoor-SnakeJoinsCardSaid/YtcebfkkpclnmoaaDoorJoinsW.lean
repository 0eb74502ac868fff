/-
  The walk of SnakeJoins. (Written by gen_joinsw.py.)
-/
import Derived.Test.YtcebfkkpclnmoaaDoorLives
import Derived.Test.YtcebfkkpclnmoaaDoorApp2
import Derived.Test.YtcebfkkpclnmoaaDoorRset
import Derived.Test.YtcebfkkpclnmoaaDoorGw
import Derived.Test.YtcebfkkpclnmoaaDoorSame
import Derived.Deep.CutRange
import Derived.Deep.RegionHeld3
namespace Go.Proofs.YtcebfkkpclnmoaaDoor
open Go.RowKit

/-- Ways to each, one behind the other. -/
theorem join_inv {c : Cf} {a : Int} (ts : List Int) (ha : isN c a = true) (ht : ∀ n ∈ ts, isN c n = true) (hl : ts.length ≤ 10) : ∃ (X Y : Nat → List Int) (CU : Nat → Int),
    X 0 = [a] ∧ CU 0 = a ∧ X ts.length = wys c a ts ∧
    (∀ i, i < ts.length → wys c (CU i) [ts.getD i 0] = CU i :: Y i ∧ X (i + 1) = X i ++ Y i ∧ CU (i + 1) = ts.getD i 0) ∧
    (∀ i, i ≤ ts.length → (X i).length ≤ 100000) ∧ (∀ i, i < ts.length → (Y i).length ≤ 5000) := by
  have tk : ∀ k, k < ts.length → ts.take (k + 1) = ts.take k ++ [ts.getD k 0] := by
    intro k hk
    rw [getD_at hk, List.take_succ_eq_append_getElem hk]
  have hC : ∀ i, isN c (lst a (ts.take i)) = true := fun i => lst_is ha (fun n hn => ht n (List.mem_of_mem_take hn))
  refine ⟨fun i => a :: wyL c a (ts.take i), fun i => wy c (lst a (ts.take i)) (ts.getD i 0), fun i => lst a (ts.take i), rfl, rfl, ?_, ?_, ?_, ?_⟩
  · dsimp only
    rw [List.take_length, wys_ok ha ht]
  · intro i hi
    have hg := ht _ (getD_mem hi)
    refine ⟨?_, ?_, ?_⟩
    · dsimp only
      rw [wys_ok (hC i) (fun n hn => by rw [List.mem_singleton] at hn; exact hn ▸ hg)]
      show _ :: (wy c _ _ ++ []) = _
      rw [List.append_nil]
    · dsimp only
      rw [tk i hi, wyL_snoc]
      rfl
    · dsimp only
      rw [tk i hi, lst_snoc]
  · intro i _
    have l := wyL_len ha (ts := ts.take i) (fun n hn => ht n (List.mem_of_mem_take hn))
    rw [List.length_take] at l
    dsimp only
    rw [List.length_cons]
    have : min i ts.length * 4096 ≤ 10 * 4096 := Nat.mul_le_mul_right _ (by omega)
    omega
  · intro i hi
    have h1 := wy_len (ht _ (getD_mem hi)) _ (hC i)
    have h2 := apt_in c (lst a (ts.take i)) (ts.getD i 0)
    dsimp only
    omega

set_option maxRecDepth 100000 in
set_option maxHeartbeats 4000000 in
theorem snakeJoins_any (c : Cf) (a : Int) (s : Option Addr) (ls : List Int) (cap : Nat) (w : World) (hlm : ls.length ≤ maxLen) (hr : RdA w s (vi ls)) (hS : Steps w) : Calls Tryd.prog 8 #[cfv c, .int .i64 a, .slice s ls.length cap] w fun e w' => e = .returned (.bool true) ∧ Below w.heap.size w w' := by
  obtain ⟨i0, ki, hz0, hz1, hz2⟩ := info_parts Tryd.info3
  have T0 : Hid (W1 w c (w.alloc (.cells (cfc c) 23))) := W1.start _ _
  have LV := lives_any _ (T0.out.steps hS)
  have SM := fun v => small_form c v
  have HS : Hid (Steps w) := hS
  have HRS : Hid (RdA w s (vi ls)) := hr
  have ST := fun c hc m hm v h => rset_any c hc s ls cap m v hm hlm h
  clear hS hr hlm
  have HTL : Hid ((ls.take 8).length ≤ 8) := by show (ls.take 8).length ≤ 8; rw [List.length_take]; omega
  generalize ls.length = nl at *
  obtain ⟨cw, ch, cl, cd, cr, ci, cb, we, ca⟩ := c
  simp only [cfv, cfc] at *
  go_enter Tryd.func8, Tryd.ntmps8
  go_wp2_with fail
  go_at_call 10
  refine LV.mono ?_
  rintro e v1 ⟨rfl, hb⟩
  have T1 : Hid (W1 w ⟨cw, ch, cl, cd, cr, ci, cb, we, ca⟩ v1) := T0.out.next hb
  clear hb LV T0
  go_upto_region 3 with fail
  go_cut [] from 12 to 13 (fun wc => ∃ c', W1 w c' wc ∧ Fits c')
  case first =>
    obtain ⟨x0, x1, x2, x3, x4, x5, x6, x7, x8⟩ := T1.out.cells
    simp only at x0 x1 x2 x3 x4 x5 x6 x7 x8
    go_wp2_with fail
    go_at_call 24
    refine (SM _).mono ?_
    rintro e v2 ⟨dw, dh, dl, dd, dr, di, db, de, da, rfl, hb, f, f1, f2⟩
    have T2 : Hid (W1 w _ v2) := T1.out.next hb
    have HF : Hid (Fits ⟨dw, dh, dl, dd, dr, di, db, de, da⟩) := f
    clear x0 x1 x2 x3 x4 x5 x6 x7 x8 hb SM f f1 f2
    obtain ⟨x0, x1, x2, x3, x4, x5, x6, x7, x8⟩ := T2.out.cells
    simp only at x0 x1 x2 x3 x4 x5 x6 x7 x8
    obtain ⟨g0, g1, g2, g3, g4, g5, g6, g7, g8⟩ := T2.out.free
    go_wp2_with fail
    go_meet
    exact ⟨⟨dw, dh, dl, dd, dr, di, db, de, da⟩, T2.out.all ⟨dw, dh, dl, dd, dr, di, db, de, da⟩, HF.out⟩
  case rest =>
  obtain ⟨c', h2, f⟩ := hcut
  obtain ⟨v2, rfl⟩ : ∃ v2 : World, v2 = wc := ⟨_, rfl⟩
  have T2 : Hid (W1 w c' v2) := h2
  clear h2 T1 SM
  have hc := chk_fits f
  have I1 := nde_in hc a
  have N1 := node_any c' hc a
  have ST := fun v h => ST c' hc 8 (by decide) v h
  have hTN := setN_is hc (ls.take 8)
  have hTL : (setN c' (ls.take 8)).length ≤ 8 := Nat.le_trans (setN_len c' _) HTL.out
  generalize setN c' (ls.take 8) = T at *
  obtain ⟨X, Y, CU, J0, J1, J2, J3, J4, J5⟩ := join_inv (c := c') (a := nde c' a) T I1 hTN (by omega)
  have WF := fun v h h' => way_any c' (nde c' a) (some h) T h' v
  have WY : ∀ (i : Nat) v g, i < T.length → Steps v → RdA v (some ⟨g, 0, none⟩) (vi [T.getD i 0]) → Calls Tryd.prog 22 #[cfv c', .int .i64 (CU i), .slice (some ⟨g, 0, none⟩) 1 1] v (Row v (CU i :: Y i)) := fun i v g hi hS h => by
    rw [← (J3 i hi).1]
    exact way_any c' (CU i) (some ⟨g, 0, none⟩) [T.getD i 0] 1 v hS (by simp) h
  have WA : ∀ v al xl, Steps v → RdA v al (vi T) → Calls Tryd.prog 22 #[cfv c', .int .i64 (nde c' a), .slice al T.length xl] v (Row v (wys c' (nde c' a) T)) := fun v al xl hS h => way_any c' (nde c' a) al T xl v hS (by omega) h
  have SA : ∀ v al xl, Steps v → RdA v al (vi T) → Calls Tryd.prog 23 #[cfv c', .int .i64 (nde c' a), .slice al T.length xl] v (fun e w' => e = .returned (.int .i64 ((wys c' (nde c' a) T).length - 1)) ∧ Below v.heap.size v w') := fun v al xl hS h => steps_any c' (nde c' a) al T xl v hS (by omega) h
  have J3' : ∀ i, i < T.length → X (i + 1) = X i ++ Y i ∧ CU (i + 1) = T.getD i 0 := fun i hi => (J3 i hi).2
  have hw1 : 1 ≤ (X T.length).length := by rw [J2, wys_ok I1 hTN]; simp
  rw [← J2] at WA SA
  clear hc f I1 hTN J3 WF J2
  generalize nde c' a = A at *
  obtain ⟨n, hn⟩ : ∃ n, T.length = n := ⟨_, rfl⟩
  have HN : Hid (T.length = n) := hn
  rw [hn] at hTL WY WA SA J3' J4 J5 hw1
  have HWY : Hid (∀ (i : Nat) v g, i < n → Steps v → RdA v (some ⟨g, 0, none⟩) (vi [T.getD i 0]) → Calls Tryd.prog 22 #[cfv c', .int .i64 (CU i), .slice (some ⟨g, 0, none⟩) 1 1] v (Row v (CU i :: Y i))) := WY
  have HJ0 : Hid (X 0 = [A] ∧ CU 0 = A) := ⟨J0, J1⟩
  have HJ3 : Hid (∀ i, i < n → X (i + 1) = X i ++ Y i ∧ CU (i + 1) = T.getD i 0) := J3'
  have HJ4 : Hid (∀ i, i ≤ n → (X i).length ≤ 100000) := J4
  have HJ5 : Hid (∀ i, i < n → (Y i).length ≤ 5000) := J5
  have HW1 : Hid (1 ≤ (X n).length) := hw1
  clear hn WY J0 J1 J3' J4 J5 hw1
  obtain ⟨cw', ch', cl', cd', cr', ci', cb', we', ca'⟩ := c'
  simp only [cfv, cfc] at *
  obtain ⟨x0, x1, x2, x3, x4, x5, x6, x7, x8⟩ := T2.out.cells
  simp only at x0 x1 x2 x3 x4 x5 x6 x7 x8
  go_wp2_with fail
  go_at_call 25
  refine (N1 _).mono ?_
  rintro e v3 ⟨rfl, hb⟩
  have T3 : Hid (W1 w ⟨cw', ch', cl', cd', cr', ci', cb', we', ca'⟩ v3) := T2.out.next hb
  clear hb N1 T2 x0 x1 x2 x3 x4 x5 x6 x7 x8 
  obtain ⟨x0, x1, x2, x3, x4, x5, x6, x7, x8⟩ := T3.out.cells
  simp only at x0 x1 x2 x3 x4 x5 x6 x7 x8
  go_wp2_with fail
  go_at_call 27
  refine (ST _ (HRS.out.below T3.out.below)).mono ?_
  rintro e v4 h4
  obtain ⟨al, xl, rfl, _, rl, _, hb⟩ := h4.rd
  have T4 : Hid (W1 w ⟨cw', ch', cl', cd', cr', ci', cb', we', ca'⟩ v4) := T3.out.next hb
  have RT : Hid (Rd v4 al (vi T)) := rl
  rw [HN.out]
  clear hb h4 rl ST T3 x0 x1 x2 x3 x4 x5 x6 x7 x8 HRS
  have hs0 : v4.heap.size ≤ v4.heap.size := Nat.le_refl _
  go_wp2_with (at_builtin; refine wpList_app_one rfl (.tmp 22) (.tmp 24) 31 3 i0 (.int .i64 0) 8 rfl Tryd.underlying31 ki hz0 hz1 hz2 rfl (by decide) v4.heap.size v4 _ [] (.int .i64 A) rfl (Own.nil _ _ _) rfl rfl (by decide) hs0 ?_; intro v1' v5 o1 kb; have hb5 : Hid (Below v4.heap.size v4 v5) := kb.2.1 _ (Below.refl _ _); have O5 : Hid (Own 3 v5 v4.heap.size v1' (vi (X 0))) := (by rw [HJ0.out.1]; exact o1); clear kb o1)
  go_loopw [8, 9, 10] (fun v x i wr => ∃ k : Nat, k ≤ n ∧ i = .int .i64 k ∧ x = .int .i64 (CU k) ∧ Own 3 wr v4.heap.size v (vi (X k)) ∧ Below v4.heap.size v4 wr) (fun _ _ i _ => n - (RowKit.intOf i).toNat)
  case atStart => exact ⟨0, Nat.zero_le _, rfl, by rw [HJ0.out.2], O5.out, hb5.out⟩
  case round =>
    obtain ⟨k, hk, rfl, rfl, own, hbr⟩ := hrel
    have HOWN : Hid (Own 3 wr v4.heap.size _ (vi (X k))) := own
    have HB : Hid (Below v4.heap.size v4 wr) := hbr
    clear own hbr O5 hb5
    by_cases hlt : k < n
    · have hltz : (k : Int) < n := by omega
      have hk0 : (0 : Int) ≤ k := by omega
      have q := vi_at (l := T) (k := k) (by rw [HN.out]; exact hlt)
      obtain ⟨g, rfl, hg, c0⟩ := RT.out k _ q
      have K2 := fun v g => HWY.out k v g hlt
      obtain ⟨j1, j2⟩ := HJ3.out k hlt
      have j4 := HJ4.out k (by omega)
      have j5 := HJ5.out k hlt
      have HX : Hid (X (k + 1) = X k ++ Y k) := j1
      have HC : Hid (CU (k + 1) = T.getD k 0) := j2
      clear q j1 j2 WA SA HJ3 HJ4 HJ5 HWY HW1
      generalize T.getD k 0 = z at *
      generalize CU k = m at *
      obtain ⟨ny, hny⟩ : ∃ ny, (Y k).length = ny := ⟨_, rfl⟩
      have HNY : Hid ((Y k).length = ny) := hny
      rw [hny] at j5
      clear hny
      have c1 : wr.cell? ⟨g, k, none⟩ = some (.int .i64 z) := (HB.out.cell (p := ⟨g, k, none⟩) hg).trans c0
      have T5 : Hid (W1 w ⟨cw', ch', cl', cd', cr', ci', cb', we', ca'⟩ wr) := T4.out.next HB.out
      go_wp2_with fail
      have D1 := T5.out.drew
      have C1 : wr.drew.cell? ⟨g, k, none⟩ = some (.int .i64 z) := c1
      have S1 := And.intro C1 D1.cells
      have hb2 : Below wr.heap.size wr (wr.alloc (.cells #[.int .i64 z] 3)).drew := ((Below.refl _ _).alloc (Nat.le_refl _) _).drew
      have D2 := T5.out.next hb2
      have C2 : (wr.alloc (.cells #[.int .i64 z] 3)).drew.cell? ⟨g, k, none⟩ = some (.int .i64 z) := ((HB.out.trans (hb2.mono HB.out.size)).cell (p := ⟨g, k, none⟩) hg).trans c0
      have S2 := And.intro C2 D2.cells
      have N2 : RdA (wr.alloc (.cells #[.int .i64 z] 3)).drew (some ⟨wr.heap.size, 0, none⟩) (vi [z]) := (RdA.new1 wr z).below (below_drew _)
      have P2 := D2.steps HS.out
      go_region_held3 (fun v => v.cell? ⟨g, k, none⟩ = some (.int .i64 z) ∧ v.cell? ⟨w.heap.size, 0, none⟩ = some (.int .i64 cw') ∧ v.cell? ⟨w.heap.size, 1, none⟩ = some (.int .i64 ch') ∧ v.cell? ⟨w.heap.size, 2, none⟩ = some (.int .i64 cl') ∧ v.cell? ⟨w.heap.size, 3, none⟩ = some (.int .i64 cd') ∧ v.cell? ⟨w.heap.size, 4, none⟩ = some (.int .i64 cr') ∧ v.cell? ⟨w.heap.size, 5, none⟩ = some (.int .i64 ci') ∧ v.cell? ⟨w.heap.size, 6, none⟩ = some (.int .i64 cb') ∧ v.cell? ⟨w.heap.size, 7, none⟩ = some (.bool we') ∧ v.cell? ⟨w.heap.size, 8, none⟩ = some (.bool ca'))
        (first | exact S3 | exact S2 | exact S1 | go_keep)
        ((go_at_call 22; (with_reducible refine (K2 _ _ P2 N2).mono ?_); rintro e u2 h2; obtain ⟨ay, xy, rfl, hxy, ry, _, hbu⟩ := h2.rd; have D3 := D2.next hbu; have B3 := (HB.out.trans (hb2.mono HB.out.size)).trans (hbu.mono (Nat.le_trans HB.out.size hb2.size)); have S3 := And.intro ((B3.cell (p := ⟨g, k, none⟩) hg).trans c0) D3.cells))
      have HB3 : Hid (Below v4.heap.size v4 u2) := B3
      have HOWN3 : Hid (Own 3 u2 v4.heap.size _ (vi (X k))) := (HOWN.out.below hb2).below hbu
      rw [HNY.out]
      have hxy2 : (ny : Int) + 1 ≤ (xy : Int) := by have h : (m :: Y k).length ≤ xy := hxy; rw [List.length_cons, HNY.out] at h; omega
      obtain ⟨gy, rfl, hgy, cy⟩ := ry 0 (.int .i64 m) rfl
      have HRY : Hid (RdA u2 (some ⟨gy, 1, none⟩) (vi (Y k))) := fun j x hj => by
        obtain ⟨g', e1, hg', c'⟩ := ry (j + 1) x (by simpa [vi] using hj)
        obtain rfl : gy = g' := by simpa using e1
        exact ⟨gy, 1, rfl, hg', by rw [Nat.add_comm 1 j]; exact c'⟩
      clear D1 C1 S1 hb2 D2 C2 S2 N2 P2 D3 B3 S3 hbu h2 ry cy K2 T5 HB HOWN c1 hxy
      have hlv : (vi (X k)).length + ny ≤ 1000000 := by rw [vi_len]; omega
      have hyl : (vi (Y k)).length = ny := by rw [vi_len]; exact HNY.out
      have hbs : v4.heap.size ≤ u2.heap.size := HB3.out.size
      by_cases hx1 : xy = 1
      · obtain rfl : ny = 0 := by omega
        subst hx1
        have hyr : RdA u2 (some ⟨gy, 0, none⟩) (vi (Y k)) := fun j x hj => by
          have h0 : vi (Y k) = [] := List.eq_nil_of_length_eq_zero hyl
          rw [h0] at hj
          cases hj
        go_wp2_with (at_builtin; refine wpList_app_rows rfl (.tmp 44) (.tmp 46) 31 3 i0 (.int .i64 0) 8 rfl Tryd.underlying31 ki hz0 hz1 hz2 rfl (by decide) v4.heap.size u2 _ (vi (X k)) rfl HOWN3.out (some ⟨gy, 0, none⟩) _ 0 rfl (vi (Y k)) hyl hyr (fun e => by cases e) (fun x hx => by cases hx; rfl) (vi_one _) hlv hbs ?_; intro v1' u3 o1 g1 _; have B4 : Hid (Below v4.heap.size v4 u3) := HB3.out.trans (Below.grown (Below.refl _ _) g1 hbs (fun q hq => (own_lt HOWN3.out hq).1)); have O4 : Hid (Own 3 u3 v4.heap.size v1' (vi (X (k + 1)))) := (by rw [HX.out]; unfold vi at o1 ⊢; rw [List.map_append]; exact o1); have c4 : u3.cell? ⟨g, k, none⟩ = some (.int .i64 z) := (B4.out.cell (p := ⟨g, k, none⟩) hg).trans c0; clear o1 g1 hyr)
        go_roundw
        case rel => exact ⟨k + 1, by omega, by go_num, by rw [HC.out], O4.out, B4.out⟩
        case measure => simp [RowKit.intOf]; omega
      · have hx2 : ¬ (xy : Int) = 1 := by omega
        have hyr := HRY.out
        go_wp2_with (at_builtin; refine wpList_app_rows rfl (.tmp 44) (.tmp 46) 31 3 i0 (.int .i64 0) 8 rfl Tryd.underlying31 ki hz0 hz1 hz2 rfl (by decide) v4.heap.size u2 _ (vi (X k)) rfl HOWN3.out (some ⟨gy, 1, none⟩) _ (xy - 1) rfl (vi (Y k)) hyl hyr (fun e => by cases e) (fun x hx => by cases hx; rfl) (vi_one _) hlv hbs ?_; intro v1' u3 o1 g1 _; have B4 : Hid (Below v4.heap.size v4 u3) := HB3.out.trans (Below.grown (Below.refl _ _) g1 hbs (fun q hq => (own_lt HOWN3.out hq).1)); have O4 : Hid (Own 3 u3 v4.heap.size v1' (vi (X (k + 1)))) := (by rw [HX.out]; unfold vi at o1 ⊢; rw [List.map_append]; exact o1); have c4 : u3.cell? ⟨g, k, none⟩ = some (.int .i64 z) := (B4.out.cell (p := ⟨g, k, none⟩) hg).trans c0; clear o1 g1 hyr)
        go_roundw
        case rel => exact ⟨k + 1, by omega, by go_num, by rw [HC.out], O4.out, B4.out⟩
        case measure => simp [RowKit.intOf]; omega
    · obtain rfl : k = n := by omega
      have hltz : ¬ (k : Int) < k := by omega
      have hxl := HJ4.out k (Nat.le_refl _)
      have hw1 := HW1.out
      obtain ⟨ax, cx, rfl, _, _, rx⟩ := HOWN.out.rd
      rw [vi_len]
      have T5 : Hid (W1 w ⟨cw', ch', cl', cd', cr', ci', cb', we', ca'⟩ wr) := T4.out.next HB.out
      have RT5 : Hid (RdA wr al (vi T)) := (RdA.of RT.out).below HB.out
      have RX5 : Hid (Rd wr ax (vi (X k))) := rx
      obtain ⟨nx, hnx⟩ : ∃ nx, (X k).length = nx := ⟨_, rfl⟩
      have HNX : Hid ((X k).length = nx) := hnx
      have hnx1 : IntKind.i64.wrap ((nx : Int) - 1) = (nx : Int) - 1 := IntWalk.i64_in _ (by omega)
      rw [hnx] at SA ⊢
      clear rx HOWN HB HJ3 HJ4 HJ5 HWY HW1 hnx
      obtain ⟨x0, x1, x2, x3, x4, x5, x6, x7, x8⟩ := T5.out.cells
      simp only at x0 x1 x2 x3 x4 x5 x6 x7 x8
      go_wp2_with fail
      go_at_call 22
      refine (WA _ _ _ (T5.out.steps HS.out) RT5.out).mono ?_
      rintro e v6 h6
      obtain ⟨ay, xy, rfl, _, ry, _, hb⟩ := h6.rd
      rw [HNX.out]
      have T6 : Hid (W1 w ⟨cw', ch', cl', cd', cr', ci', cb', we', ca'⟩ v6) := T5.out.next hb
      have SM := same_big (X k) ay ax xy cx v6 (by omega) ry (RX5.out.below hb)
      rw [HNX.out] at SM
      have RT6 : Hid (RdA v6 al (vi T)) := RT5.out.below hb
      clear hb h6 ry WA RX5 T5 RT5 x0 x1 x2 x3 x4 x5 x6 x7 x8
      go_wp2_with fail
      go_at_call 21
      refine SM.mono ?_
      rintro e v7 ⟨rfl, m, rfl⟩
      have T7 : Hid (W1 w ⟨cw', ch', cl', cd', cr', ci', cb', we', ca'⟩ (v6.drewN m)) := T6.out.drewN m
      have RT7 : Hid (RdA (v6.drewN m) al (vi T)) := RT6.out
      clear SM T6 RT6
      obtain ⟨x0, x1, x2, x3, x4, x5, x6, x7, x8⟩ := T7.out.cells
      simp only at x0 x1 x2 x3 x4 x5 x6 x7 x8
      go_wp2_with fail
      go_at_call 23
      refine (SA _ _ _ (T7.out.steps HS.out) RT7.out).mono ?_
      rintro e v8 ⟨rfl, hb⟩
      have HB8 : Hid (Below w.heap.size w v8) := (T7.out.next hb).below
      clear hb SA T7 RT7 x0 x1 x2 x3 x4 x5 x6 x7 x8
      go_wp2
      go_ret
      exact ⟨rfl, HB8.out⟩
end Go.Proofs.YtcebfkkpclnmoaaDoor
