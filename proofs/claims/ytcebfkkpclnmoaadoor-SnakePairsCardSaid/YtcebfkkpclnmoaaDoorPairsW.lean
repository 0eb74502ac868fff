/-
  The walk of SnakePairs. (Written by gen_pairsw.py.)
-/
import Derived.Test.YtcebfkkpclnmoaaDoorPlansW
import Derived.Test.YtcebfkkpclnmoaaDoorRset
import Derived.Test.YtcebfkkpclnmoaaDoorGw
import Derived.Deep.RegionHeld3
namespace Go.Proofs.YtcebfkkpclnmoaaDoor
open Go.RowKit

theorem B3.free {v : World} {b : Nat} {x y z : Value} (h : B3 v b x y z) : v.frozen? ⟨b, 0, none⟩ = false ∧ v.frozen? ⟨b, 1, none⟩ = false ∧ v.frozen? ⟨b, 2, none⟩ = false := by
  unfold B3 at h
  simp [World.frozen?, h]
theorem B3.set {v : World} {b : Nat} {x y z : Value} (h : B3 v b x y z) (x' y' z' : Value) : B3 (((v.setCell ⟨b, 0, none⟩ x').setCell ⟨b, 1, none⟩ y').setCell ⟨b, 2, none⟩ z') b x' y' z' := by
  unfold B3 at h ⊢
  simp [World.setCell, Array.getElem?_modify, h]
theorem W1.set3 {w v : World} {c : Cf} {b : Nat} (h : W1 w c v) (hb : w.heap.size < b) (x y z : Value) : W1 w c (((v.setCell ⟨b, 0, none⟩ x).setCell ⟨b, 1, none⟩ y).setCell ⟨b, 2, none⟩ z) := by
  have f : ∀ (u : World) j x, (u.setCell ⟨b, j, none⟩ x).heap[w.heap.size]? = u.heap[w.heap.size]? := fun u j x => Below.heap_setCell u ⟨b, j, none⟩ x _ (by show w.heap.size ≠ b; omega)
  refine ⟨?_, below_three h.2 (by omega) x y z⟩
  unfold Blk
  rw [f, f, f]
  exact h.1
/-- Plans of unlike rows of one set, and of one node. -/
theorem pairs_facts {c : Cf} {a : Int} {T : List Int} (ha : isN c a = true) (ht : ∀ n ∈ T, isN c n = true) (hd : T.Nodup) (h0 : T ≠ []) : plB c a T = true ∧ plB c a T.reverse = true ∧ plB c a [T.getD 0 0] = true ∧
    plG c a T.reverse = plG c a T ∧ plL c a T.reverse = plL c a T ∧ plS c a T.reverse = plS c a T ∧
    (plG c a [T.getD 0 0]).length = (if lb c a < lb c (T.getD 0 0) then 1 else 0) ∧ (plL c a [T.getD 0 0]).length = (if lb c (T.getD 0 0) < lb c a then 1 else 0) ∧ (plS c a [T.getD 0 0]).length = (if lb c (T.getD 0 0) = lb c a then 1 else 0) ∧
    (plG c a T).length ≤ T.length ∧ (plL c a T).length ≤ T.length ∧ (plS c a T).length ≤ T.length := by
  have hm : T.getD 0 0 ∈ T := getD_mem (by cases T with | nil => exact absurd rfl h0 | cons x T => simp)
  have b1 := plB_mk ha h0 ht hd
  have b2 : plB c a T.reverse = true := plB_mk ha (by simpa using h0) (fun n hn => ht n (List.mem_reverse.1 hn)) ((List.reverse_perm T).nodup_iff.2 hd)
  have b3 : plB c a [T.getD 0 0] = true := plB_mk ha (by simp) (fun n hn => by rw [List.mem_singleton] at hn; rw [hn]; exact ht _ hm) (List.pairwise_singleton _ _)
  have e : srt c T.reverse = srt c T := srt_same ht (List.reverse_perm T)
  have e1 := srt_one c (T.getD 0 0)
  refine ⟨b1, b2, b3, ?_, ?_, ?_, ?_, ?_, ?_, ?_, ?_, ?_⟩
  all_goals try (generalize T.getD 0 0 = x at *)
  · unfold plG; rw [if_pos b1, if_pos b2, e]
  · unfold plL; rw [if_pos b1, if_pos b2, e]
  · unfold plS; rw [if_pos b1, if_pos b2, e]
  · unfold plG; rw [if_pos b3, e1]; unfold gtr; rw [List.filter_cons, List.filter_nil]; by_cases h : lb c a < lb c x <;> simp [h]
  · unfold plL; rw [if_pos b3, e1]; unfold les; rw [List.filter_cons, List.filter_nil]; by_cases h : lb c x < lb c a <;> simp [h]
  · unfold plS; rw [if_pos b3, e1]; unfold sef; rw [List.filter_cons, List.filter_nil]; by_cases h : lb c x = lb c a <;> simp [h]
  · unfold plG; rw [if_pos b1, ← srt_len c T]; exact gtr_le ..
  · unfold plL; rw [if_pos b1, ← srt_len c T]; exact les_le ..
  · unfold plS; rw [if_pos b1, ← srt_len c T]; exact sef_le ..

set_option maxRecDepth 100000 in
set_option maxHeartbeats 4000000 in
theorem snakePairs_any (c : Cf) (a : Int) (s : Option Addr) (ls : List Int) (cap : Nat) (w : World) (hlm : ls.length ≤ maxLen) (hr : RdA w s (vi ls)) (hS : Steps w) : Calls Tryd.prog 9 #[cfv c, .int .i64 a, .slice s ls.length cap] w fun e w' => e = .returned (.bool true) ∧ Below w.heap.size w w' := by
  obtain ⟨i0, ki, hz0, hz1, hz2⟩ := info_parts Tryd.info3
  have T0 : Hid (W1 w c (w.alloc (.cells (cfc c) 23))) := W1.start _ _
  have LV := lives_any _ (T0.out.steps hS)
  have SM := fun v => small_form c v
  have HS : Hid (Steps w) := hS
  have HRS : Hid (RdA w s (vi ls)) := hr
  have ST := fun c hc m hm v h => rset_any c hc s ls cap m v hm hlm h
  clear hS hr hlm
  have HTL : Hid ((ls.take 8).length ≤ 8) := by show (ls.take 8).length ≤ 8; rw [List.length_take]; omega
  generalize ls.length = nl at *
  obtain ⟨cw, ch, cl, cd, cr, ci, cb, we, ca⟩ := c
  simp only [cfv, cfc] at *
  go_enter Tryd.func9, Tryd.ntmps9
  go_wp2_with fail
  go_at_call 10
  refine LV.mono ?_
  rintro e v1 ⟨rfl, hb⟩
  have T1 : Hid (W1 w ⟨cw, ch, cl, cd, cr, ci, cb, we, ca⟩ v1) := T0.out.next hb
  clear hb LV T0
  go_upto_region 3 with fail
  go_cut [] from 20 to 21 (fun wc => ∃ c', W1 w c' wc ∧ Fits c')
  case first =>
    obtain ⟨x0, x1, x2, x3, x4, x5, x6, x7, x8⟩ := T1.out.cells
    simp only at x0 x1 x2 x3 x4 x5 x6 x7 x8
    go_wp2_with fail
    go_at_call 24
    refine (SM _).mono ?_
    rintro e v2 ⟨dw, dh, dl, dd, dr, di, db, de, da, rfl, hb, f, f1, f2⟩
    have T2 : Hid (W1 w _ v2) := T1.out.next hb
    have HF : Hid (Fits ⟨dw, dh, dl, dd, dr, di, db, de, da⟩) := f
    clear x0 x1 x2 x3 x4 x5 x6 x7 x8 hb SM f f1 f2
    obtain ⟨x0, x1, x2, x3, x4, x5, x6, x7, x8⟩ := T2.out.cells
    simp only at x0 x1 x2 x3 x4 x5 x6 x7 x8
    obtain ⟨g0, g1, g2, g3, g4, g5, g6, g7, g8⟩ := T2.out.free
    go_wp2_with fail
    go_meet
    exact ⟨⟨dw, dh, dl, dd, dr, di, db, de, da⟩, T2.out.all ⟨dw, dh, dl, dd, dr, di, db, de, da⟩, HF.out⟩
  case rest =>
  obtain ⟨c', h2, f⟩ := hcut
  obtain ⟨v2, rfl⟩ : ∃ v2 : World, v2 = wc := ⟨_, rfl⟩
  have T2 : Hid (W1 w c' v2) := h2
  clear h2 T1 SM
  have hc := chk_fits f
  have I1 := nde_in hc a
  have N1 := node_any c' hc a
  have ST := fun v h => ST c' hc 8 (by decide) v h
  have hTN := setN_is hc (ls.take 8)
  have hTD := setN_nodup c' (ls.take 8)
  have hTL : (setN c' (ls.take 8)).length ≤ 8 := Nat.le_trans (setN_len c' _) HTL.out
  generalize setN c' (ls.take 8) = T at *
  by_cases h0 : T = []
  · subst h0
    clear hTN hTD hc f I1
    generalize nde c' a = A at *
    obtain ⟨cw', ch', cl', cd', cr', ci', cb', we', ca'⟩ := c'
    simp only [cfv, cfc] at *
    obtain ⟨x0, x1, x2, x3, x4, x5, x6, x7, x8⟩ := T2.out.cells
    simp only at x0 x1 x2 x3 x4 x5 x6 x7 x8
    go_wp2_with fail
    go_at_call 25
    refine (N1 _).mono ?_
    rintro e v3 ⟨rfl, hb⟩
    have T3 : Hid (W1 w ⟨cw', ch', cl', cd', cr', ci', cb', we', ca'⟩ v3) := T2.out.next hb
    clear hb N1 T2 x0 x1 x2 x3 x4 x5 x6 x7 x8 
    obtain ⟨x0, x1, x2, x3, x4, x5, x6, x7, x8⟩ := T3.out.cells
    simp only at x0 x1 x2 x3 x4 x5 x6 x7 x8
    go_wp2_with fail
    go_at_call 27
    refine (ST _ (HRS.out.below T3.out.below)).mono ?_
    rintro e v4 h4
    obtain ⟨al, xl, rfl, _, _, _, hb⟩ := h4.rd
    have HB : Hid (Below w.heap.size w v4) := (T3.out.next hb).below
    clear hb h4 ST T3 x0 x1 x2 x3 x4 x5 x6 x7 x8 HRS
    rw [List.length_nil]
    go_wp2
    go_ret
    exact ⟨rfl, HB.out⟩
  · obtain ⟨p1, p2, p3, p4, p5, p6, p7, p8, p9, p10, p11, p12⟩ := pairs_facts I1 hTN hTD h0
    have P1 : ∀ v al xl, RdA v al (vi T) → Calls Tryd.prog 18 #[cfv c', .int .i64 (nde c' a), .slice al T.length xl] v (fun e v' => ∃ a1 a2 a3 m1 m2 m3, e = .returned (.tuple #[.agg #[.slice a1 (plG c' (nde c' a) T).length m1, .slice a2 (plL c' (nde c' a) T).length m2, .slice a3 (plS c' (nde c' a) T).length m3], .int .i64 0]) ∧ R3i v' a1 a2 a3 (plG c' (nde c' a) T) (plL c' (nde c' a) T) (plS c' (nde c' a) T) ∧ Below v.heap.size v v') := fun v al xl h =>
      (plan_any c' (nde c' a) al T xl v (by omega) h).mono fun e v' h => by
        obtain ⟨a1, a2, a3, m1, m2, m3, e1, oa, ob, oc, hb⟩ := h.rd
        rw [p1] at e1
        exact ⟨a1, a2, a3, m1, m2, m3, e1, R3i.mk' oa ob oc, hb⟩
    have P2 : ∀ v al xl, RdA v al (vi T.reverse) → Calls Tryd.prog 18 #[cfv c', .int .i64 (nde c' a), .slice al T.length xl] v (fun e v' => ∃ a1 a2 a3 m1 m2 m3, e = .returned (.tuple #[.agg #[.slice a1 (plG c' (nde c' a) T).length m1, .slice a2 (plL c' (nde c' a) T).length m2, .slice a3 (plS c' (nde c' a) T).length m3], .int .i64 0]) ∧ R3i v' a1 a2 a3 (plG c' (nde c' a) T) (plL c' (nde c' a) T) (plS c' (nde c' a) T) ∧ Below v.heap.size v v') := fun v al xl h => by
      have K := plan_any c' (nde c' a) al T.reverse xl v (by rw [List.length_reverse]; omega) h
      rw [List.length_reverse] at K
      refine K.mono fun e v' h => ?_
      obtain ⟨a1, a2, a3, m1, m2, m3, e1, oa, ob, oc, hb⟩ := h.rd
      rw [p2, p4, p5, p6] at e1
      rw [p4] at oa
      rw [p5] at ob
      rw [p6] at oc
      exact ⟨a1, a2, a3, m1, m2, m3, e1, R3i.mk' oa ob oc, hb⟩
    have P3 : ∀ v al xl, RdA v al (vi [T.getD 0 0]) → Calls Tryd.prog 18 #[cfv c', .int .i64 (nde c' a), .slice al 1 xl] v (fun e v' => ∃ a1 a2 a3 m1 m2 m3, e = .returned (.tuple #[.agg #[.slice a1 (if lb c' (nde c' a) < lb c' (T.getD 0 0) then 1 else 0) m1, .slice a2 (if lb c' (T.getD 0 0) < lb c' (nde c' a) then 1 else 0) m2, .slice a3 (if lb c' (T.getD 0 0) = lb c' (nde c' a) then 1 else 0) m3], .int .i64 0]) ∧ Below v.heap.size v v') := fun v al xl h =>
      (plan_any c' (nde c' a) al [T.getD 0 0] xl v (by simp) h).mono fun e v' h => by
        obtain ⟨a1, a2, a3, m1, m2, m3, e1, oa, ob, oc, hb⟩ := h.rd
        rw [p3, p7, p8, p9] at e1
        exact ⟨a1, a2, a3, m1, m2, m3, e1, hb⟩
    have L1 := fun v => label_any c' (nde c' a) v
    have L2 := fun v => label_any c' (T.getD 0 0) v
    have LI := fun m => lb_in c' m
    have ht1 : T.take 1 = [T.getD 0 0] := by
      cases T with
      | nil => exact absurd rfl h0
      | cons x T => rfl
    have HT1 : Hid (T.take 1 = [T.getD 0 0]) := ht1
    have hn0 : 1 ≤ T.length := by
      cases T with
      | nil => exact absurd rfl h0
      | cons x T => simp
    have SG := fun p q x y v => same_big (plG c' (nde c' a) T) p q x y v (by omega)
    have SL := fun p q x y v => same_big (plL c' (nde c' a) T) p q x y v (by omega)
    have SS := fun p q x y v => same_big (plS c' (nde c' a) T) p q x y v (by omega)
    clear hc f I1 hTN hTD h0 p1 p2 p3 p4 p5 p6 p7 p8 p9 p10 p11 p12 ht1
    generalize plG c' (nde c' a) T = G at *
    generalize plL c' (nde c' a) T = L at *
    generalize plS c' (nde c' a) T = S at *
    generalize ple c' (T.getD 0 0) = e2 at *
    generalize ple c' (nde c' a) = e1 at *
    have la := LI (nde c' a)
    have lt := LI (T.getD 0 0)
    generalize lb c' (T.getD 0 0) = bb at *
    generalize lb c' (nde c' a) = aa at *
    generalize nde c' a = A at *
    clear LI
    obtain ⟨og, hog⟩ : ∃ k : Nat, (if aa < bb then 1 else 0) = k := ⟨_, rfl⟩
    obtain ⟨ol, hol⟩ : ∃ k : Nat, (if bb < aa then 1 else 0) = k := ⟨_, rfl⟩
    obtain ⟨os, hos⟩ : ∃ k : Nat, (if bb = aa then 1 else 0) = k := ⟨_, rfl⟩
    rw [hog, hol, hos] at P3
    have HO : Hid ((aa < bb → og = 1 ∧ ol = 0 ∧ os = 0) ∧ (bb < aa → og = 0 ∧ ol = 1 ∧ os = 0) ∧ (aa = bb → og = 0 ∧ ol = 0 ∧ os = 1)) := by
      refine ⟨fun h => ?_, fun h => ?_, fun h => ?_⟩
      · rw [← hog, ← hol, ← hos, if_pos h, if_neg (by omega), if_neg (by omega)]; exact ⟨rfl, rfl, rfl⟩
      · rw [← hog, ← hol, ← hos, if_neg (by omega), if_pos h, if_neg (by omega)]; exact ⟨rfl, rfl, rfl⟩
      · rw [← hog, ← hol, ← hos, if_neg (by omega), if_neg (by omega), if_pos h.symm]; exact ⟨rfl, rfl, rfl⟩
    clear hog hol hos
    obtain ⟨n, hn⟩ : ∃ n, T.length = n := ⟨_, rfl⟩
    have HN : Hid (T.length = n) := hn
    rw [hn] at P1 P2 hn0 hTL
    clear hn
    generalize G.length = ng at *
    generalize L.length = nb at *
    generalize S.length = ns at *
    have hnz : ((n : Int) == 0) = false := by simp; omega
    have en : IntKind.i64.wrap ((n : Int) - 1) = (n : Int) - 1 := IntWalk.i64_in _ (by omega)
    obtain ⟨cw', ch', cl', cd', cr', ci', cb', we', ca'⟩ := c'
    simp only [cfv, cfc] at *
    obtain ⟨x0, x1, x2, x3, x4, x5, x6, x7, x8⟩ := T2.out.cells
    simp only at x0 x1 x2 x3 x4 x5 x6 x7 x8
    go_wp2_with fail
    go_at_call 25
    refine (N1 _).mono ?_
    rintro e v3 ⟨rfl, hb⟩
    have T3 : Hid (W1 w ⟨cw', ch', cl', cd', cr', ci', cb', we', ca'⟩ v3) := T2.out.next hb
    clear hb N1 T2 x0 x1 x2 x3 x4 x5 x6 x7 x8 
    obtain ⟨x0, x1, x2, x3, x4, x5, x6, x7, x8⟩ := T3.out.cells
    simp only at x0 x1 x2 x3 x4 x5 x6 x7 x8
    go_wp2_with fail
    go_at_call 27
    refine (ST _ (HRS.out.below T3.out.below)).mono ?_
    rintro e v4 h4
    obtain ⟨al, xl, rfl, hxl, rl, _, hb⟩ := h4.rd
    have T4 : Hid (W1 w ⟨cw', ch', cl', cd', cr', ci', cb', we', ca'⟩ v4) := T3.out.next hb
    have RT : Hid (Rd v4 al (vi T)) := rl
    have hxl2 : (n : Int) ≤ (xl : Int) := by have h : T.length ≤ xl := hxl; rw [HN.out] at h; omega
    rw [HN.out]
    clear hb h4 rl ST T3 x0 x1 x2 x3 x4 x5 x6 x7 x8 HRS hxl
    go_wp2_with fail
    go_loopw [8, 9] (fun v i wr => ∃ (k : Nat) (j : Int), k ≤ n ∧ j = (n : Int) - 1 - k ∧ i = .int .i64 j ∧ Own 3 wr v4.heap.size v (vi (T.reverse.take k)) ∧ Below v4.heap.size v4 wr) (fun _ i _ => (RowKit.intOf i + 1).toNat)
    case atStart => exact ⟨0, _, Nat.zero_le _, rfl, by congr 1; omega, by rw [List.take_zero]; exact Own.nil _ _ _, Below.refl _ _⟩
    case round =>
      obtain ⟨k, j, hk, hj, rfl, own, hbr⟩ := hrel
      have HOWN : Hid (Own 3 wr v4.heap.size _ (vi (T.reverse.take k))) := own
      have HB : Hid (Below v4.heap.size v4 wr) := hbr
      clear own hbr
      by_cases hlt : k < n
      · have hj0 : (0 : Int) ≤ j := by omega
        have hjn : j < (n : Int) := by omega
        obtain ⟨jn, hjj⟩ : ∃ jn : Nat, j = (jn : Int) := ⟨j.toNat, by omega⟩
        subst hjj
        have q := vi_at (l := T) (k := jn) (by rw [HN.out]; omega)
        obtain ⟨g, rfl, hg, c0⟩ := RT.out jn _ q
        have ht : Hid (T.reverse.take (k + 1) = T.reverse.take k ++ [T.getD jn 0]) := by
          have hkr : k < T.reverse.length := by rw [List.length_reverse, HN.out]; exact hlt
          show T.reverse.take (k + 1) = _
          rw [List.take_succ_eq_append_getElem hkr, List.getElem_reverse, getD_at (l := T) (by rw [HN.out]; omega)]
          congr 3
          rw [HN.out]
          omega
        have hrl : (T.reverse.take k).length ≤ 8 := by rw [List.length_take, List.length_reverse, HN.out]; omega
        have ejj : IntKind.i64.wrap ((jn : Int) - 1) = (jn : Int) - 1 := IntWalk.i64_in _ (by omega)
        clear q P1 P2 P3 L1 L2 SG SL SS en hnz
        generalize T.getD jn 0 = z at *
        have c1 : wr.cell? ⟨g, jn, none⟩ = some (.int .i64 z) := (HB.out.cell (p := ⟨g, jn, none⟩) hg).trans c0
        have hlv : (vi (T.reverse.take k)).length ≤ 1000000 := by rw [vi_len]; omega
        have hbs : v4.heap.size ≤ wr.heap.size := HB.out.size
        have hx : (0 : Int) ≤ jn := by omega
        have HJ : Hid ((jn : Int) = (n : Int) - 1 - k) := hj
        clear hrl hj
        go_wp2_with (at_builtin; refine wpList_app_one rfl (.tmp 40) (.tmp 45) 31 3 i0 (.int .i64 0) 8 rfl Tryd.underlying31 ki hz0 hz1 hz2 rfl (by decide) v4.heap.size wr _ (vi (T.reverse.take k)) (.int .i64 z) rfl HOWN.out rfl rfl hlv hbs ?_; intro v1' v5 o1 kb; have hb5 : Hid (Below v4.heap.size v4 v5) := kb.2.1 _ HB.out; have O5 : Hid (Own 3 v5 v4.heap.size v1' (vi (T.reverse.take (k + 1)))) := (by rw [ht.out, ← vi_snoc]; exact o1); clear kb o1)
        go_roundw
        case rel => exact ⟨k + 1, _, by omega, rfl, by have := HJ.out; congr 1; omega, O5.out, hb5.out⟩
        case measure => simp [RowKit.intOf]
      · obtain rfl : k = n := by omega
        have hjneg : ¬ (0 : Int) ≤ j := by omega
        clear hj
        have hfull : T.reverse.take k = T.reverse := by rw [List.take_of_length_le]; rw [List.length_reverse, HN.out]; exact Nat.le_refl _
        rw [hfull] at HOWN
        obtain ⟨ab, cb2, rfl, _, _, rb⟩ := HOWN.out.rd
        rw [vi_len, List.length_reverse, HN.out]
        have T5 : Hid (W1 w ⟨cw', ch', cl', cd', cr', ci', cb', we', ca'⟩ wr) := T4.out.next HB.out
        have RT5 : Hid (Rd wr al (vi T)) := RT.out.below HB.out
        have RB5 : Hid (RdA wr ab (vi T.reverse)) := RdA.of rb
        clear HOWN HB rb hfull T4 RT hk hlt
        obtain ⟨x0, x1, x2, x3, x4, x5, x6, x7, x8⟩ := T5.out.cells
        simp only at x0 x1 x2 x3 x4 x5 x6 x7 x8
        go_wp2_with fail
        go_at_call 18
        refine (P1 _ _ _ (RdA.of RT5.out)).mono ?_
        rintro e v6 ⟨a1, a2, a3, m1, m2, m3, rfl, q1, hb⟩
        have hb6 : Below wr.heap.size wr (v6.alloc (.cells #[.slice a1 ng m1, .slice a2 nb m2, .slice a3 ns m3] 33)) := nxt hb (below_new v6 _)
        have T6 : Hid (W1 w ⟨cw', ch', cl', cd', cr', ci', cb', we', ca'⟩ (v6.alloc (.cells #[.slice a1 ng m1, .slice a2 nb m2, .slice a3 ns m3] 33))) := T5.out.next hb6
        have RT6 : Hid (Rd (v6.alloc (.cells #[.slice a1 ng m1, .slice a2 nb m2, .slice a3 ns m3] 33)) al (vi T)) := RT5.out.below hb6
        have RB6 : Hid (RdA (v6.alloc (.cells #[.slice a1 ng m1, .slice a2 nb m2, .slice a3 ns m3] 33)) ab (vi T.reverse)) := RB5.out.below hb6
        have B6 : Hid (B3 (v6.alloc (.cells #[.slice a1 ng m1, .slice a2 nb m2, .slice a3 ns m3] 33)) v6.heap.size (.slice a1 ng m1) (.slice a2 nb m2) (.slice a3 ns m3)) := B3.new v6 _ _ _
        have Q6 : Hid (R3i (v6.alloc (.cells #[.slice a1 ng m1, .slice a2 nb m2, .slice a3 ns m3] 33)) a1 a2 a3 G L S) := q1.below (below_new v6 _)
        clear hb hb6 q1 P1 T5 RT5 RB5 x0 x1 x2 x3 x4 x5 x6 x7 x8
        obtain ⟨x0, x1, x2, x3, x4, x5, x6, x7, x8⟩ := T6.out.cells
        simp only at x0 x1 x2 x3 x4 x5 x6 x7 x8
        go_wp2_with fail
        go_at_call 18
        refine (P2 _ _ _ RB6.out).mono ?_
        rintro e v7 ⟨b1, b2, b3, k1, k2, k3, rfl, q1, hb⟩
        have hb7 := below_new v7 (.cells #[.slice b1 ng k1, .slice b2 nb k2, .slice b3 ns k3] 33)
        have T7 : Hid (W1 w ⟨cw', ch', cl', cd', cr', ci', cb', we', ca'⟩ (v7.alloc (.cells #[.slice b1 ng k1, .slice b2 nb k2, .slice b3 ns k3] 33))) := (T6.out.next hb).next hb7
        have RT7 : Hid (Rd (v7.alloc (.cells #[.slice b1 ng k1, .slice b2 nb k2, .slice b3 ns k3] 33)) al (vi T)) := (RT6.out.below hb).below hb7
        have B7 : Hid (B3 (v7.alloc (.cells #[.slice b1 ng k1, .slice b2 nb k2, .slice b3 ns k3] 33)) v6.heap.size (.slice a1 ng m1) (.slice a2 nb m2) (.slice a3 ns m3)) := (B6.out.next hb).next hb7
        have Q7 : Hid (R3i (v7.alloc (.cells #[.slice b1 ng k1, .slice b2 nb k2, .slice b3 ns k3] 33)) a1 a2 a3 G L S) := (Q6.out.below hb).below hb7
        have B7' : Hid (B3 (v7.alloc (.cells #[.slice b1 ng k1, .slice b2 nb k2, .slice b3 ns k3] 33)) v7.heap.size (.slice b1 ng k1) (.slice b2 nb k2) (.slice b3 ns k3)) := B3.new v7 _ _ _
        have Q7' : Hid (R3i (v7.alloc (.cells #[.slice b1 ng k1, .slice b2 nb k2, .slice b3 ns k3] 33)) b1 b2 b3 G L S) := q1.below hb7
        clear hb hb7 q1 P2 T6 RT6 RB6 B6 Q6 x0 x1 x2 x3 x4 x5 x6 x7 x8
        have h1x : (1 : Int) ≤ (xl : Int) := by omega
        go_upto_region 15 with fail
        generalize v7.alloc (.cells #[.slice b1 ng k1, .slice b2 nb k2, .slice b3 ns k3] 33) = u7 at *
        generalize v7.heap.size = q7 at *
        generalize v6.heap.size = q6 at *
        go_cut [14, 15] from 62 to 68 (fun x y wc => ∃ b o1 o2 o3 y1 y2 y3, x = .pointer (some ⟨b, 0, none⟩) ∧ y = .int .i64 0 ∧ B3 wc b (.slice o1 og y1) (.slice o2 ol y2) (.slice o3 os y3) ∧ Below u7.heap.size u7 wc)
        case first =>
          have D1 := T7.out.drew
          have S1 := D1.cells
          have hbn : Below u7.heap.size u7 (u7.alloc (.cells #[.slice none 0 0, .slice none 0 0, .slice none 0 0] 33)).drew := (below_new u7 _).drew
          have E1 := T7.out.next hbn
          have S5 := E1.cells
          have N1 : B3 (u7.alloc (.cells #[.slice none 0 0, .slice none 0 0, .slice none 0 0] 33)).drew u7.heap.size (.slice none 0 0) (.slice none 0 0) (.slice none 0 0) := (B3.new u7 _ _ _).next (below_drew _)
          have R1 : RdA u7.drew al (vi [T.getD 0 0]) := by rw [← HT1.out]; exact ((RdA.of RT7.out).below (below_drew _)).take 1
          have R2 : RdA (u7.alloc (.cells #[.slice none 0 0, .slice none 0 0, .slice none 0 0] 33)).drew al (vi [T.getD 0 0]) := by rw [← HT1.out]; exact ((RdA.of RT7.out).below hbn).take 1
          have hlt7 := T7.out.lt
          go_wp2_with fail
          go_region_held3 (fun v => v.cell? ⟨w.heap.size, 0, none⟩ = some (.int .i64 cw') ∧ v.cell? ⟨w.heap.size, 1, none⟩ = some (.int .i64 ch') ∧ v.cell? ⟨w.heap.size, 2, none⟩ = some (.int .i64 cl') ∧ v.cell? ⟨w.heap.size, 3, none⟩ = some (.int .i64 cd') ∧ v.cell? ⟨w.heap.size, 4, none⟩ = some (.int .i64 cr') ∧ v.cell? ⟨w.heap.size, 5, none⟩ = some (.int .i64 ci') ∧ v.cell? ⟨w.heap.size, 6, none⟩ = some (.int .i64 cb') ∧ v.cell? ⟨w.heap.size, 7, none⟩ = some (.bool we') ∧ v.cell? ⟨w.heap.size, 8, none⟩ = some (.bool ca'))
            (first | exact S1 | exact S2 | exact S5 | exact S6 | exact S3 _ | go_keep)
            (first
              | (go_at_call 18; (with_reducible refine (P3 _ _ _ R1).mono ?_); rintro e v8 ⟨o1, o2, o3, y1, y2, y3, rfl, hb8⟩; have D2 := D1.next hb8; have hu8 : Below u7.heap.size u7 v8 := (below_drew u7).trans hb8; have S2 := D2.cells; have S3 := fun o => (D2.next (below_new v8 o)).cells; have HF : Hid (∀ x y z, B3 (v8.alloc (.cells #[x, y, z] 33)) v8.heap.size x y z ∧ Below u7.heap.size u7 (v8.alloc (.cells #[x, y, z] 33))) := fun x y z => ⟨B3.new v8 x y z, hu8.alloc hu8.size _⟩)
              | (go_at_call 18; (with_reducible refine (P3 _ _ _ R2).mono ?_); rintro e v8 ⟨o1, o2, o3, y1, y2, y3, rfl, hb8⟩; have D2 := E1.next hb8; have N2 := N1.next hb8; have hu8 : Below u7.heap.size u7 v8 := hbn.trans (hb8.mono hbn.size); obtain ⟨n0, n1, n2⟩ := N2.cells; obtain ⟨f0, f1, f2⟩ := N2.free; have S2 := D2.cells; have S6 := (D2.set3 hlt7 (.slice o1 og y1) (.slice o2 ol y2) (.slice o3 os y3)).cells; have HF : Hid (∀ x y z, B3 (((v8.setCell ⟨u7.heap.size, 0, none⟩ x).setCell ⟨u7.heap.size, 1, none⟩ y).setCell ⟨u7.heap.size, 2, none⟩ z) u7.heap.size x y z ∧ Below u7.heap.size u7 (((v8.setCell ⟨u7.heap.size, 0, none⟩ x).setCell ⟨u7.heap.size, 1, none⟩ y).setCell ⟨u7.heap.size, 2, none⟩ z)) := fun x y z => ⟨N2.set x y z, ((hu8.setCell (Nat.le_refl _) _).setCell (Nat.le_refl _) _).setCell (Nat.le_refl _) _⟩))
          all_goals
            go_wp2_with fail
            go_meet
            exact ⟨_, _, _, _, _, _, _, rfl, rfl, (HF.out _ _ _).1, (HF.out _ _ _).2⟩
        case rest =>
        obtain ⟨q8, o1, o2, o3, y1, y2, y3, rfl, rfl, hB8, hb8⟩ := hcut
        have T8 : Hid (W1 w ⟨cw', ch', cl', cd', cr', ci', cb', we', ca'⟩ wc) := T7.out.next hb8
        have RT8 : Hid (Rd wc al (vi T)) := RT7.out.below hb8
        have B8 : Hid (B3 wc q6 (.slice a1 ng m1) (.slice a2 nb m2) (.slice a3 ns m3)) := B7.out.next hb8
        have B8' : Hid (B3 wc q7 (.slice b1 ng k1) (.slice b2 nb k2) (.slice b3 ns k3)) := B7'.out.next hb8
        have B8'' : Hid (B3 wc q8 (.slice o1 og y1) (.slice o2 ol y2) (.slice o3 os y3)) := hB8
        have Q8 : Hid (R3i wc a1 a2 a3 G L S) := Q7.out.below hb8
        have Q8' : Hid (R3i wc b1 b2 b3 G L S) := Q7'.out.below hb8
        clear hb8 hB8 T7 RT7 B7 B7' Q7 Q7' P3
        obtain ⟨x0, x1, x2, x3, x4, x5, x6, x7, x8⟩ := T8.out.cells
        simp only at x0 x1 x2 x3 x4 x5 x6 x7 x8
        go_wp2_with fail
        go_at_call 11
        refine (L1 _).mono ?_
        rintro e v9 ⟨rfl, hb⟩
        have T9 : Hid (W1 w ⟨cw', ch', cl', cd', cr', ci', cb', we', ca'⟩ v9) := T8.out.next hb
        have RT9 : Hid (Rd v9 al (vi T)) := RT8.out.below hb
        have B9 : Hid (B3 v9 q6 (.slice a1 ng m1) (.slice a2 nb m2) (.slice a3 ns m3)) := B8.out.next hb
        have B9' : Hid (B3 v9 q7 (.slice b1 ng k1) (.slice b2 nb k2) (.slice b3 ns k3)) := B8'.out.next hb
        have B9'' : Hid (B3 v9 q8 (.slice o1 og y1) (.slice o2 ol y2) (.slice o3 os y3)) := B8''.out.next hb
        have Q9 : Hid (R3i v9 a1 a2 a3 G L S) := Q8.out.below hb
        have Q9' : Hid (R3i v9 b1 b2 b3 G L S) := Q8'.out.below hb
        clear hb T8 RT8 B8 B8' B8'' Q8 Q8' L1 x0 x1 x2 x3 x4 x5 x6 x7 x8
        have q := vi_at (l := T) (k := 0) (by rw [HN.out]; omega)
        obtain ⟨g, rfl, hg, c0⟩ := RT9.out 0 _ q
        clear q
        generalize T.getD 0 0 = z at *
        obtain ⟨x0, x1, x2, x3, x4, x5, x6, x7, x8⟩ := T9.out.gw
        simp only at x0 x1 x2 x3 x4 x5 x6 x7 x8
        have SC : ∀ p : Gw v9, p.v.cell? ⟨g, 0, none⟩ = some (.int .i64 z) := fun p => p.cell hg c0
        have hn1 : 0 < k := by omega
        go_wp2_with fail
        refine region_gw (by kernel_rfl) (by kernel_rfl) ?_
        repeat (quiet_step ((go_at_call 11; exact quiet_below (L2 _))))
        refine wpQuiet_nil ?_
        intro v10 hw'
        obtain ⟨⟨u10, hb10⟩, hw''⟩ := hw'
        obtain rfl : v10 = u10 := hw''
        have T10 : Hid (W1 w ⟨cw', ch', cl', cd', cr', ci', cb', we', ca'⟩ v10) := T9.out.next hb10
        have B10 := B9.out.next hb10
        have B10' := B9'.out.next hb10
        have B10'' := B9''.out.next hb10
        have Q10 : Hid (R3i v10 a1 a2 a3 G L S) := Q9.out.below hb10
        have Q10' : Hid (R3i v10 b1 b2 b3 G L S) := Q9'.out.below hb10
        obtain ⟨d0, d1, d2⟩ := B10.cells
        obtain ⟨d3, d4, d5⟩ := B10'.cells
        obtain ⟨d6, d7, d8⟩ := B10''.cells
        clear hb10 T9 B9 B9' B9'' Q9 Q9' B10 B10' B10'' RT9 c0 SC L2 x0 x1 x2 x3 x4 x5 x6 x7 x8
        rcases Int.lt_trichotomy aa bb with hc | hc | hc
        · obtain ⟨rfl, rfl, rfl⟩ := HO.out.1 hc
          have hc2 : ¬ bb < aa := by omega
          have hc3 : (bb == aa) = false := by simp; omega
          go_wp2_with fail
          go_at_call 21
          refine (SG _ _ _ _ _ Q10.out.g Q10'.out.g).mono ?_
          rintro e w1 ⟨rfl, k7, rfl⟩
          go_wp2_with fail
          go_at_call 21
          refine (SL _ _ _ _ _ (Q10.out.l.below (below_drewN v10 k7)) (Q10'.out.l.below (below_drewN v10 k7))).mono ?_
          rintro e w2 ⟨rfl, k8, rfl⟩
          go_wp2_with fail
          go_at_call 21
          refine (SS _ _ _ _ _ (Q10.out.s.below (below_drewN v10 (k7 + k8))) (Q10'.out.s.below (below_drewN v10 (k7 + k8)))).mono ?_
          rintro e w3 ⟨rfl, k9, rfl⟩
          have HB : Hid (Below w.heap.size w (v10.drewN (k7 + k8 + k9))) := (T10.out.drewN (k7 + k8 + k9)).below
          clear SG SL SS T10 Q10 Q10'
          go_wp2
          go_ret
          exact ⟨ret_bool (by simp; omega), HB.out⟩
        · obtain ⟨rfl, rfl, rfl⟩ := HO.out.2.2 hc
          have hc1 : ¬ aa < bb := by omega
          have hc2 : ¬ bb < aa := by omega
          have hc3 : (bb == aa) = true := by simp; omega
          clear hc
          go_wp2_with fail
          go_at_call 21
          refine (SG _ _ _ _ _ Q10.out.g Q10'.out.g).mono ?_
          rintro e w1 ⟨rfl, k7, rfl⟩
          go_wp2_with fail
          go_at_call 21
          refine (SL _ _ _ _ _ (Q10.out.l.below (below_drewN v10 k7)) (Q10'.out.l.below (below_drewN v10 k7))).mono ?_
          rintro e w2 ⟨rfl, k8, rfl⟩
          go_wp2_with fail
          go_at_call 21
          refine (SS _ _ _ _ _ (Q10.out.s.below (below_drewN v10 (k7 + k8))) (Q10'.out.s.below (below_drewN v10 (k7 + k8)))).mono ?_
          rintro e w3 ⟨rfl, k9, rfl⟩
          have HB : Hid (Below w.heap.size w (v10.drewN (k7 + k8 + k9))) := (T10.out.drewN (k7 + k8 + k9)).below
          clear SG SL SS T10 Q10 Q10'
          go_wp2
          go_ret
          exact ⟨ret_bool (by simp; omega), HB.out⟩
        · obtain ⟨rfl, rfl, rfl⟩ := HO.out.2.1 hc
          have hc2 : ¬ aa < bb := by omega
          have hc3 : (bb == aa) = false := by simp; omega
          go_wp2_with fail
          go_at_call 21
          refine (SG _ _ _ _ _ Q10.out.g Q10'.out.g).mono ?_
          rintro e w1 ⟨rfl, k7, rfl⟩
          go_wp2_with fail
          go_at_call 21
          refine (SL _ _ _ _ _ (Q10.out.l.below (below_drewN v10 k7)) (Q10'.out.l.below (below_drewN v10 k7))).mono ?_
          rintro e w2 ⟨rfl, k8, rfl⟩
          go_wp2_with fail
          go_at_call 21
          refine (SS _ _ _ _ _ (Q10.out.s.below (below_drewN v10 (k7 + k8))) (Q10'.out.s.below (below_drewN v10 (k7 + k8)))).mono ?_
          rintro e w3 ⟨rfl, k9, rfl⟩
          have HB : Hid (Below w.heap.size w (v10.drewN (k7 + k8 + k9))) := (T10.out.drewN (k7 + k8 + k9)).below
          clear SG SL SS T10 Q10 Q10'
          go_wp2
          go_ret
          exact ⟨ret_bool (by simp; omega), HB.out⟩
end Go.Proofs.YtcebfkkpclnmoaaDoor
