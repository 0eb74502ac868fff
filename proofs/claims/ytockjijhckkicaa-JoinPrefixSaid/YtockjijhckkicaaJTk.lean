/-
  The walk of join's Take.
-/
import Derived.Test.YtockjijhckkicaaJTake
namespace Go.Proofs.Ytockjijhckkicaa
open Go.RowKit

set_option maxRecDepth 100000 in
set_option maxHeartbeats 8000000 in
theorem take_any (j : JS) (W : Nat) (hW : W < 18446744073709551616) (hx : j.x.size ≤ 900000) (b : Nat) (w : World) (h : Bk w b (pj j) 64) :
    Calls Try.prog 11 #[.pointer (some ⟨b, 0, none⟩), .int .u64 (W : Int)] w fun e w' => e = .returned (.tuple #[pkv (takeR j W).2.1, .bool (takeR j W).2.2.1, .int .i64 (takeR j W).2.2.2]) ∧ Bk w' b (pj (takeR j W).1) 64 ∧ Gb b w w' := by
  have RC := fun w => fread_any W hW w
  have HX : (readR W).2 = 0 → (readR W).1.x.size ≤ 6 ∧ ((readR W).1.k = 1 ∨ (readR W).1.k = 2 ∨ (readR W).1.k = 3) := fun h => by
    obtain ⟨_, hr⟩ := readR_ok h
    rcases right_forms hr with ⟨h1, _, _, _, _, _, _, _, _, hx⟩ | ⟨h2, _, _, _, _, _, _, h3⟩
    · rw [hx]
      exact ⟨by decide, Or.inl h1⟩
    · exact ⟨h3, Or.inr h2⟩
  unfold takeR
  obtain ⟨F, hF⟩ : ∃ F, (readR W).1 = F := ⟨_, rfl⟩
  obtain ⟨er, hE⟩ : ∃ E, (readR W).2 = E := ⟨_, rfl⟩
  rw [hF, hE] at RC HX ⊢
  clear hF hE hW
  obtain ⟨rs, hrs⟩ : ∃ rs, takeF j F er = rs := ⟨_, rfl⟩
  have HRS0 : Hid (takeF j F er = rs) := hrs
  rw [hrs]
  clear hrs
  obtain ⟨jb, js, jd, jq, jx, jn⟩ := j
  obtain ⟨fk, fs, fd, fq, fl, fm, fc, fx⟩ := F
  simp only [flv, flc, pkv, pkc, pj] at *
  have hlt := h.lt
  have A0 : Hid (Bk (w.alloc (.cells #[.int .i64 0, .int .i64 0, .int .i64 0, .string ⟨#[]⟩] 33)) b #[.bool jb, .int .i64 jn, .int .i64 js, .int .i64 jd, .int .i64 jq, .string jx] 64) := h.alloc _
  have A1 : Hid (Bk (w.alloc (.cells #[.int .i64 0, .int .i64 0, .int .i64 0, .string ⟨#[]⟩] 33)) w.heap.size #[.int .i64 0, .int .i64 0, .int .i64 0, .string ⟨#[]⟩] 33) := Bk.new _ _ _
  have A2 : Hid (Gb b w (w.alloc (.cells #[.int .i64 0, .int .i64 0, .int .i64 0, .string ⟨#[]⟩] 33))) := (Gb.refl _ _).alloc _
  clear h
  go_enter Try.func11, Try.ntmps11
  go_upto_region 4 with (go_at_call 21; (with_reducible refine (RC _).mono ?_); rintro e w2 ⟨rfl, hb2⟩)
  have HXK : Hid (Bk (w2.alloc (.cells #[.int .i64 fk, .int .i64 fs, .int .i64 fd, .int .i64 fq, .int .i64 fl, .bool fm, .bool fc, .string fx] 48)) b #[.bool jb, .int .i64 jn, .int .i64 js, .int .i64 jd, .int .i64 jq, .string jx] 64) := (A0.out.next hb2).alloc _
  have HXR : Hid (Bk (w2.alloc (.cells #[.int .i64 fk, .int .i64 fs, .int .i64 fd, .int .i64 fq, .int .i64 fl, .bool fm, .bool fc, .string fx] 48)) w.heap.size #[.int .i64 0, .int .i64 0, .int .i64 0, .string ⟨#[]⟩] 33) := (A1.out.next hb2).alloc _
  have HXF : Hid (Bk (w2.alloc (.cells #[.int .i64 fk, .int .i64 fs, .int .i64 fd, .int .i64 fq, .int .i64 fl, .bool fm, .bool fc, .string fx] 48)) w2.heap.size #[.int .i64 fk, .int .i64 fs, .int .i64 fd, .int .i64 fq, .int .i64 fl, .bool fm, .bool fc, .string fx] 48) := Bk.new _ _ _
  have HXG : Hid (Gb b w (w2.alloc (.cells #[.int .i64 fk, .int .i64 fs, .int .i64 fd, .int .i64 fq, .int .i64 fl, .bool fm, .bool fc, .string fx] 48))) := (A2.out.below hb2).alloc _
  have hbf : w.heap.size < w2.heap.size := (A1.out.next hb2).lt
  have hne : ¬ w.heap.size = b := by omega
  have hne2 : ¬ b = w.heap.size := by omega
  have hne3 : ¬ w2.heap.size = b := by omega
  have hne4 : ¬ w2.heap.size = w.heap.size := by omega
  have hwz : w.heap.size ≤ w.heap.size := Nat.le_refl _
  clear RC hb2 A0 A1 A2 hlt
  generalize w2.alloc (.cells #[.int .i64 fk, .int .i64 fs, .int .i64 fd, .int .i64 fq, .int .i64 fl, .bool fm, .bool fc, .string fx] 48) = v at *
  generalize w2.heap.size = bf at *
  obtain ⟨r0, hr0⟩ : ∃ r, w.heap.size = r := ⟨_, rfl⟩
  rw [hr0] at HXR hne hne2 hne4 hbf ⊢
  have hwz : w.heap.size ≤ r0 := by omega
  clear hr0
  have c0 := HXK.out.cell 0
  have d0 := HXF.out.cell 0
  have d1 := HXF.out.cell 1
  have d2 := HXF.out.cell 2
  have d3 := HXF.out.cell 3
  have d4 := HXF.out.cell 4
  have d5 := HXF.out.cell 5
  have d6 := HXF.out.cell 6
  have d7 := HXF.out.cell 7
  have r_0 := HXR.out.cell 0
  have r_1 := HXR.out.cell 1
  have r_2 := HXR.out.cell 2
  have r_3 := HXR.out.cell 3
  have f_0 := HXR.out.free 0
  have f_1 := HXR.out.free 1
  have f_2 := HXR.out.free 2
  have f_3 := HXR.out.free 3
  simp only [List.getElem?_toArray, List.getElem?_cons_zero, List.getElem?_cons_succ] at c0 d0 d1 d2 d3 d4 d5 d6 d7 r_0 r_1 r_2 r_3
  by_cases he : er = 0
  case neg =>
    have e9 : rs = (⟨jb, js, jd, jq, jx, jn⟩, zpk, false, er) := by rw [← HRS0.out]; unfold takeF; rw [if_pos he]
    subst e9
    clear HRS0
    go_wp2
    have Y := fourp_at (x0 := .int .i64 0) (x1 := .int .i64 0) (x2 := .int .i64 0) (x3 := .string ⟨#[]⟩) HXR.out
    have Y0 := Y.cell 0
    have Y1 := Y.cell 1
    have Y2 := Y.cell 2
    have Y3 := Y.cell 3
    simp only [List.getElem?_toArray, List.getElem?_cons_zero, List.getElem?_cons_succ] at Y0 Y1 Y2 Y3
    clear Y
    refine bodyPost_ret (v := .tuple #[.agg #[.int .i64 0, .int .i64 0, .int .i64 0, .string ⟨#[]⟩], .bool false, .int .i64 er]) (by simp [results, Try.results11, go_sem, Y0, Y1, Y2, Y3]; try rfl) rfl ⟨rfl, four_far HXK.out hne2, HXG.out.four hwz _ _ _ _⟩
  subst he
  obtain ⟨hx6, hk⟩ := HX rfl
  clear HX
  by_cases hbk : decide (fk = 1) = jb
  · have e9 : rs = (⟨jb, js, jd, jq, jx, jn⟩, zpk, false, 13) := by rw [← HRS0.out]; unfold takeF; rw [if_neg (by simp), if_pos hbk]
    subst e9
    clear HRS0
    by_cases h1 : fk = 1
    · subst h1
      obtain rfl : jb = true := by rw [← hbk]; rfl
      go_wp2
      have Y := fourp_at (x0 := .int .i64 0) (x1 := .int .i64 0) (x2 := .int .i64 0) (x3 := .string ⟨#[]⟩) HXR.out
      have Y0 := Y.cell 0
      have Y1 := Y.cell 1
      have Y2 := Y.cell 2
      have Y3 := Y.cell 3
      simp only [List.getElem?_toArray, List.getElem?_cons_zero, List.getElem?_cons_succ] at Y0 Y1 Y2 Y3
      clear Y
      refine bodyPost_ret (v := .tuple #[.agg #[.int .i64 0, .int .i64 0, .int .i64 0, .string ⟨#[]⟩], .bool false, .int .i64 13]) (by simp [results, Try.results11, go_sem, Y0, Y1, Y2, Y3]; try rfl) rfl ⟨rfl, four_far HXK.out hne2, HXG.out.four hwz _ _ _ _⟩
    · obtain rfl : jb = false := by rw [← hbk]; exact decide_eq_false h1
      have h1b : (fk == 1) = false := by simpa using h1
      clear hbk hk
      go_wp2
      have Y := fourp_at (x0 := .int .i64 0) (x1 := .int .i64 0) (x2 := .int .i64 0) (x3 := .string ⟨#[]⟩) HXR.out
      have Y0 := Y.cell 0
      have Y1 := Y.cell 1
      have Y2 := Y.cell 2
      have Y3 := Y.cell 3
      simp only [List.getElem?_toArray, List.getElem?_cons_zero, List.getElem?_cons_succ] at Y0 Y1 Y2 Y3
      clear Y
      refine bodyPost_ret (v := .tuple #[.agg #[.int .i64 0, .int .i64 0, .int .i64 0, .string ⟨#[]⟩], .bool false, .int .i64 13]) (by simp [results, Try.results11, go_sem, Y0, Y1, Y2, Y3]; try rfl) rfl ⟨rfl, four_far HXK.out hne2, HXG.out.four hwz _ _ _ _⟩
  by_cases h1 : fk = 1
  · subst h1
    obtain rfl : jb = false := by
      cases jb
      · rfl
      · exact absurd rfl hbk
    have e9 : rs = (⟨true, fs, fd, fq, ByteArray.empty, fl⟩, zpk, false, 0) := by rw [← HRS0.out]; unfold takeF; rw [if_neg (by simp), if_neg (by simp), if_pos rfl]
    subst e9
    clear HRS0 hbk hk
    have CC := begin_any (j := ⟨false, js, jd, jq, jx, jn⟩) ⟨1, fs, fd, fq, fl, fm, fc, fx⟩ HXK.out
    simp only [pj, flv, flc] at CC
    go_upto_region 11 with (go_at_call 22; (with_reducible refine CC.mono ?_); rintro e v3 ⟨rfl, hk3, hg3⟩)
    have HK3 : Hid (Bk v3 b _ 64) := hk3
    have HR3 : Hid (Bk v3 r0 #[.int .i64 0, .int .i64 0, .int .i64 0, .string ⟨#[]⟩] 33) := HXR.out.gb hg3 hne
    have HG3 : Hid (Gb b w v3) := HXG.out.trans hg3
    clear CC HXK HXR HXG hk3 hg3 r_0 r_1 r_2 r_3 f_0 f_1 f_2 f_3 c0
    have HXK := HK3
    have HXG := HG3
    have HXR := HR3
    have r_0 := HXR.out.cell 0
    have r_1 := HXR.out.cell 1
    have r_2 := HXR.out.cell 2
    have r_3 := HXR.out.cell 3
    have f_0 := HXR.out.free 0
    have f_1 := HXR.out.free 1
    have f_2 := HXR.out.free 2
    have f_3 := HXR.out.free 3
    simp only [List.getElem?_toArray, List.getElem?_cons_zero, List.getElem?_cons_succ] at r_0 r_1 r_2 r_3
    go_wp2
    have Y := fourp_at (x0 := .int .i64 0) (x1 := .int .i64 0) (x2 := .int .i64 0) (x3 := .string ⟨#[]⟩) HXR.out
    have Y0 := Y.cell 0
    have Y1 := Y.cell 1
    have Y2 := Y.cell 2
    have Y3 := Y.cell 3
    simp only [List.getElem?_toArray, List.getElem?_cons_zero, List.getElem?_cons_succ] at Y0 Y1 Y2 Y3
    clear Y
    refine bodyPost_ret (v := .tuple #[.agg #[.int .i64 0, .int .i64 0, .int .i64 0, .string ⟨#[]⟩], .bool false, .int .i64 0]) (by simp [results, Try.results11, go_sem, Y0, Y1, Y2, Y3]; try rfl) rfl ⟨rfl, four_far HXK.out hne2, HXG.out.four hwz _ _ _ _⟩
  obtain rfl : jb = true := by
    cases jb
    · exact absurd (decide_eq_false h1) hbk
    · rfl
  have h1b : (fk == 1) = false := by simpa using h1
  rcases hk with hk | rfl | rfl
  · exact absurd hk h1
  · have e9 : rs = (addS ⟨true, js, jd, jq, jx, jn⟩ fx, zpk, false, addE ⟨true, js, jd, jq, jx, jn⟩ fx) := by
      rw [← HRS0.out]
      unfold takeF addS addE
      rw [if_neg (by simp), if_neg (by simp), if_neg (by simp), if_neg (by simp)]
      simp only [ByteArray.size_append]
      by_cases hs : jn < (jx.size : Int) + (fx.size : Int)
      · rw [if_pos hs, if_pos hs, if_pos (by omega)]
      · rw [if_neg hs, if_neg hs, if_neg (by omega)]
    have CC := add_any (j := ⟨true, js, jd, jq, jx, jn⟩) fx HXK.out (Nat.le_trans hx (by decide)) (by omega)
    obtain ⟨js2, hj2⟩ : ∃ z, addS ⟨true, js, jd, jq, jx, jn⟩ fx = z := ⟨_, rfl⟩
    obtain ⟨er2, he2⟩ : ∃ z, addE ⟨true, js, jd, jq, jx, jn⟩ fx = z := ⟨_, rfl⟩
    rw [hj2, he2] at CC e9
    clear hj2 he2 HRS0 hbk
    subst e9
    simp only [pj] at CC
    go_upto_region 13 with fail
    clear c0 d0 d1 d2 d3 d4 d5 d6
    go_wp2_with fail
    go_at_call 23
    with_reducible refine CC.mono ?_
    rintro e v3 ⟨rfl, hk3, hg3⟩
    have HXK3 : Hid (Bk v3 b _ 64) := hk3
    have HXR3 : Hid (Bk v3 r0 #[.int .i64 0, .int .i64 0, .int .i64 0, .string ⟨#[]⟩] 33) := HXR.out.gb hg3 hne
    have HXG3 : Hid (Gb b w v3) := HXG.out.trans hg3
    clear CC hk3 hg3 HXK HXR HXG r_0 r_1 r_2 r_3 f_0 f_1 f_2 f_3
    have r_0 := HXR3.out.cell 0
    have r_1 := HXR3.out.cell 1
    have r_2 := HXR3.out.cell 2
    have r_3 := HXR3.out.cell 3
    have f_0 := HXR3.out.free 0
    have f_1 := HXR3.out.free 1
    have f_2 := HXR3.out.free 2
    have f_3 := HXR3.out.free 3
    simp only [List.getElem?_toArray, List.getElem?_cons_zero, List.getElem?_cons_succ] at r_0 r_1 r_2 r_3
    go_wp2
    have HXK := HXK3
    have HXR := HXR3
    have HXG := HXG3
    have Y := fourp_at (x0 := .int .i64 0) (x1 := .int .i64 0) (x2 := .int .i64 0) (x3 := .string ⟨#[]⟩) HXR.out
    have Y0 := Y.cell 0
    have Y1 := Y.cell 1
    have Y2 := Y.cell 2
    have Y3 := Y.cell 3
    simp only [List.getElem?_toArray, List.getElem?_cons_zero, List.getElem?_cons_succ] at Y0 Y1 Y2 Y3
    clear Y
    refine bodyPost_ret (v := .tuple #[.agg #[.int .i64 0, .int .i64 0, .int .i64 0, .string ⟨#[]⟩], .bool false, .int .i64 er2]) (by simp [results, Try.results11, go_sem, Y0, Y1, Y2, Y3]; try rfl) rfl ⟨rfl, four_far HXK.out hne2, HXG.out.four hwz _ _ _ _⟩
  · have e9 : rs = (zjs, (endR ⟨true, js, jd, jq, jx, jn⟩ fx).1, (endR ⟨true, js, jd, jq, jx, jn⟩ fx).2.1, (endR ⟨true, js, jd, jq, jx, jn⟩ fx).2.2) := by
      rw [← HRS0.out]
      unfold takeF endR
      rw [if_neg (by simp), if_neg (by simp), if_neg (by simp), if_pos rfl]
      split <;> rfl
    have CC := end_any (j := ⟨true, js, jd, jq, jx, jn⟩) fx HXK.out (Nat.le_trans hx (by decide)) (by omega)
    obtain ⟨R, hR⟩ : ∃ z, endR ⟨true, js, jd, jq, jx, jn⟩ fx = z := ⟨_, rfl⟩
    rw [hR] at CC e9
    clear hR HRS0 hbk
    subst e9
    obtain ⟨⟨Rs, Rd, Rq, Rx⟩, Rb, Re⟩ := R
    simp only [pj, pkv, pkc] at CC ⊢
    go_upto_region 14 with fail
    clear c0 d0 d1 d2 d3 d4 d5 d6
    go_wp2_with fail
    go_at_call 24
    with_reducible refine CC.mono ?_
    rintro e v3 ⟨rfl, hk3, hg3⟩
    have HXK3 : Hid (Bk v3 b _ 64) := hk3
    have HXR3 : Hid (Bk v3 r0 #[.int .i64 0, .int .i64 0, .int .i64 0, .string ⟨#[]⟩] 33) := HXR.out.gb hg3 hne
    have HXG3 : Hid (Gb b w v3) := HXG.out.trans hg3
    clear CC hk3 hg3 HXK HXR HXG r_0 r_1 r_2 r_3 f_0 f_1 f_2 f_3
    have r_0 := HXR3.out.cell 0
    have r_1 := HXR3.out.cell 1
    have r_2 := HXR3.out.cell 2
    have r_3 := HXR3.out.cell 3
    have f_0 := HXR3.out.free 0
    have f_1 := HXR3.out.free 1
    have f_2 := HXR3.out.free 2
    have f_3 := HXR3.out.free 3
    simp only [List.getElem?_toArray, List.getElem?_cons_zero, List.getElem?_cons_succ] at r_0 r_1 r_2 r_3
    go_wp2
    have HXK := HXK3
    have HXR := HXR3
    have HXG := HXG3
    have Y := fourp_at (x0 := .int .i64 Rs) (x1 := .int .i64 Rd) (x2 := .int .i64 Rq) (x3 := .string Rx) HXR.out
    have Y0 := Y.cell 0
    have Y1 := Y.cell 1
    have Y2 := Y.cell 2
    have Y3 := Y.cell 3
    simp only [List.getElem?_toArray, List.getElem?_cons_zero, List.getElem?_cons_succ] at Y0 Y1 Y2 Y3
    clear Y
    refine bodyPost_ret (v := .tuple #[.agg #[.int .i64 Rs, .int .i64 Rd, .int .i64 Rq, .string Rx], .bool Rb, .int .i64 Re]) (by simp [results, Try.results11, go_sem, Y0, Y1, Y2, Y3]; try rfl) rfl ⟨rfl, four_far HXK.out hne2, HXG.out.four hwz _ _ _ _⟩
end Go.Proofs.Ytockjijhckkicaa
