/-
  The walk of config.Read.
-/
import Derived.Test.YtkebplapjkefiaaDoorParse
namespace Go.Proofs.YtkebplapjkefiaaDoor
open Go.RowKit Go.Lib

theorem bs_toList (l : L) : (bs l).toList = l := by rw [ByteArray.toList_eq]
theorem short_int {n : Int} (h : short n) : int64 n := by unfold short at h; unfold int64; omega
theorem bnd_in {c : Cf} (h : bnd c) : In c := by
  obtain ⟨h1, h2, h3, h4, h5, h6, h7⟩ := h
  exact ⟨short_int h1, short_int h2, short_int h3, short_int h4, short_int h5, short_int h6, short_int h7⟩

theorem rd_none {s : L} (h : par s = none) : rd s = (zc, 2) := by unfold rd; rw [h]; rfl
theorem rd_other {s : L} {c : Cf} (h : par s = some c) (hn : txt c ≠ s) : rd s = (zc, 2) := by unfold rd; rw [h]; simp only [fin]; rw [if_neg hn]
theorem rd_bad {s : L} {c : Cf} (h : par s = some c) (hn : txt c = s) (hc : chk c ≠ 0) : rd s = (zc, chk c) := by unfold rd; rw [h]; simp only [fin]; rw [if_pos hn, if_neg hc]
theorem rd_good {s : L} {c : Cf} (h : par s = some c) (hn : txt c = s) (hc : chk c = 0) : rd s = (c, 0) := by unfold rd; rw [h]; simp only [fin]; rw [if_pos hn, if_pos hc]

/-- What Read tells. -/
def RdP (r : Cf × Int) (w : World) (e : Ending) (w' : World) : Prop := e = .returned (.tuple #[cfv r.1, .int .i64 r.2]) ∧ Below w.heap.size w w'
theorem RdP.mk {r : Cf × Int} {c : Cf} {n : Int} {w w' : World} (h : r = (c, n)) (hb : Below w.heap.size w w') : RdP r w (.returned (.tuple #[cfv c, .int .i64 n])) w' := by
  subst h; exact ⟨rfl, hb⟩

/-- Above the result's block all may be new. -/
def Zer (w v : World) : Prop := Below (w.heap.size + 1) (w.alloc (.cells (cfc zc) 23)) v
theorem Zer.blk {w v : World} (h : Zer w v) : Blk v w.heap.size zc := (Blk.new w zc).keep h (by omega)
theorem Zer.trans {w v v' : World} (h : Zer w v) (hb : Below v.heap.size v v') : Zer w v' := Below.trans h (hb.mono (At.size (c := zc) h))
theorem Zer.alloc {w v : World} (h : Zer w v) (o : Obj) : Zer w (v.alloc o) := h.trans ((Below.refl _ _).alloc (Nat.le_refl _) o)
theorem Zer.below {w v : World} (h : Zer w v) : Below w.heap.size w v := At.below (c := zc) h
theorem Zer.lt {w v : World} (h : Zer w v) : w.heap.size < v.heap.size := by have := At.size (c := zc) h; omega

theorem below_nine_a {w v : World} (h : Below w.heap.size w v) (x0 x1 x2 x3 x4 x5 x6 x7 x8 : Value) (o : Obj) :
    Below w.heap.size w ((((((((((v.setCell ⟨w.heap.size, 0, none⟩ x0).setCell ⟨w.heap.size, 1, none⟩ x1).setCell ⟨w.heap.size, 2, none⟩ x2).setCell ⟨w.heap.size, 3, none⟩ x3).setCell ⟨w.heap.size, 4, none⟩ x4).setCell ⟨w.heap.size, 5, none⟩ x5).setCell ⟨w.heap.size, 6, none⟩ x6).setCell ⟨w.heap.size, 7, none⟩ x7).setCell ⟨w.heap.size, 8, none⟩ x8).alloc o) :=
  (below_nine h (Nat.le_refl _) _ _ _ _ _ _ _ _ _).alloc (below_nine h (Nat.le_refl _) _ _ _ _ _ _ _ _ _).size o

set_option maxRecDepth 100000 in
set_option maxHeartbeats 1000000 in
theorem read_any (s : L) (hs : s.length ≤ 1000) (w : World) (hE : Env w) : Calls Tryd.prog 17 #[.string (bs s)] w (RdP (rd s) w) := by
  have Z0 : Hid (Zer w (w.alloc (.cells (cfc zc) 23))) := Below.refl _ _
  have HE : Hid (Env w) := hE
  have PA := parse_any s hs _ (hE.next Z0.out.below)
  clear hs hE
  obtain ⟨R, hR⟩ : ∃ R, R = rd s := ⟨_, rfl⟩
  rw [← hR]
  have HR : Hid (R = rd s) := hR
  clear hR
  unfold Prs at PA
  cases hp : par s with
  | none =>
    have HR2 : Hid (R = (zc, 2)) := by show _ = _; rw [HR.out, rd_none hp]
    simp only [hp] at PA
    clear hp
    simp only [cfv, cfc, zc] at PA
    simp only [cfc, zc] at Z0
    go_enter Tryd.func17, Tryd.ntmps17
    go_wp2_with fail
    go_at_call 25
    refine PA.mono ?_
    rintro e v1 ⟨hb, rfl⟩
    have Z1 : Hid (Zer w v1) := Z0.out.trans hb
    obtain ⟨⟨z0, z1, z2, z3, z4, z5, z6, z7, z8⟩, f0, f1, f2, f3, f4, f5, f6, f7, f8⟩ := (Z0.out.trans hb).blk.nine
    have hz := (Z0.out.trans hb).lt
    clear hb PA
    go_wp2
    exact bodyPost_ret (v := .tuple #[.agg #[.int .i64 0, .int .i64 0, .int .i64 0, .int .i64 0, .int .i64 0, .int .i64 0, .int .i64 0, .bool false, .bool false], .int .i64 2]) (by simp [results, Tryd.results17, go_sem, hz, z0, z1, z2, z3, z4, z5, z6, z7, z8]) rfl (RdP.mk HR2.out (below_nine_a Z1.out.below _ _ _ _ _ _ _ _ _ _))
  | some c =>
    have TE := fun v hv => text_any c (bnd_in (par_bnd hp)) v hv
    have h6 : 6 ≤ w.heap.size := HE.out.1
    simp only [hp] at PA
    by_cases ht : txt c = s
    · rw [ht] at TE
      have CK := fun v => check_any c v
      rcases chk_cases c with hc | hc | hc
      · have HR2 : Hid (R = (c, 0)) := by show _ = _; rw [HR.out, rd_good hp ht hc]
        rw [hc] at CK
        clear hp ht hc
        obtain ⟨cw, ch, cl, cd, cr, ci, cb, we, ca⟩ := c
        simp only [cfv, cfc, zc] at PA CK TE
        simp only [cfc, zc] at Z0
        go_enter Tryd.func17, Tryd.ntmps17
        go_wp2_with fail
        go_at_call 25
        refine PA.mono ?_
        rintro e v1 ⟨hb, rfl⟩
        have Z1 : Hid (Zer w v1) := Z0.out.trans hb
        have hz := Z1.out.lt
        obtain ⟨⟨z0, z1, z2, z3, z4, z5, z6, z7, z8⟩, f0, f1, f2, f3, f4, f5, f6, f7, f8⟩ := Z1.out.blk.nine
        clear hb PA
        go_wp2_with fail
        go_at_call 15
        refine (TE _ (HE.out.below (Z1.out.alloc _).below h6)).mono ?_
        rintro e v2 ⟨rfl, hb⟩
        have Z2 : Hid (Zer w v2) := (Z1.out.alloc _).trans hb
        have BK : Hid (Blk v2 v1.heap.size ⟨cw, ch, cl, cd, cr, ci, cb, we, ca⟩) := (Blk.new v1 ⟨cw, ch, cl, cd, cr, ci, cb, we, ca⟩).below hb
        obtain ⟨⟨y0, y1, y2, y3, y4, y5, y6, y7, y8⟩, -⟩ := BK.out.nine
        clear hb TE z0 z1 z2 z3 z4 z5 z6 z7 z8 f0 f1 f2 f3 f4 f5 f6 f7 f8
        go_wp2_with fail
        go_at_call 11
        refine (CK _).mono ?_
        rintro e v3 ⟨rfl, hb⟩
        have Z3 : Hid (Zer w v3) := Z2.out.trans hb
        clear y0 y1 y2 y3 y4 y5 y6 y7 y8
        obtain ⟨⟨y0, y1, y2, y3, y4, y5, y6, y7, y8⟩, -⟩ := (BK.out.below hb).nine
        obtain ⟨⟨z0, z1, z2, z3, z4, z5, z6, z7, z8⟩, f0, f1, f2, f3, f4, f5, f6, f7, f8⟩ := Z3.out.blk.nine
        clear hb CK
        go_wp2
        exact bodyPost_ret (v := .tuple #[.agg #[.int .i64 cw, .int .i64 ch, .int .i64 cl, .int .i64 cd, .int .i64 cr, .int .i64 ci, .int .i64 cb, .bool we, .bool ca], .int .i64 0]) (by simp [results, Tryd.results17, go_sem, z0, z1, z2, z3, z4, z5, z6, z7, z8]) rfl (RdP.mk HR2.out (below_nine Z3.out.below (Nat.le_refl _) _ _ _ _ _ _ _ _ _))
      · have HR2 : Hid (R = (zc, 4)) := by show _ = _; rw [HR.out, rd_bad hp ht (by rw [hc]; decide), hc]
        rw [hc] at CK
        clear hp ht hc
        obtain ⟨cw, ch, cl, cd, cr, ci, cb, we, ca⟩ := c
        simp only [cfv, cfc, zc] at PA CK TE
        simp only [cfc, zc] at Z0
        go_enter Tryd.func17, Tryd.ntmps17
        go_wp2_with fail
        go_at_call 25
        refine PA.mono ?_
        rintro e v1 ⟨hb, rfl⟩
        have Z1 : Hid (Zer w v1) := Z0.out.trans hb
        have hz := Z1.out.lt
        obtain ⟨⟨z0, z1, z2, z3, z4, z5, z6, z7, z8⟩, f0, f1, f2, f3, f4, f5, f6, f7, f8⟩ := Z1.out.blk.nine
        clear hb PA
        go_wp2_with fail
        go_at_call 15
        refine (TE _ (HE.out.below (Z1.out.alloc _).below h6)).mono ?_
        rintro e v2 ⟨rfl, hb⟩
        have Z2 : Hid (Zer w v2) := (Z1.out.alloc _).trans hb
        have BK : Hid (Blk v2 v1.heap.size ⟨cw, ch, cl, cd, cr, ci, cb, we, ca⟩) := (Blk.new v1 ⟨cw, ch, cl, cd, cr, ci, cb, we, ca⟩).below hb
        obtain ⟨⟨y0, y1, y2, y3, y4, y5, y6, y7, y8⟩, -⟩ := BK.out.nine
        clear hb TE z0 z1 z2 z3 z4 z5 z6 z7 z8 f0 f1 f2 f3 f4 f5 f6 f7 f8
        go_wp2_with fail
        go_at_call 11
        refine (CK _).mono ?_
        rintro e v3 ⟨rfl, hb⟩
        have Z3 : Hid (Zer w v3) := Z2.out.trans hb
        clear y0 y1 y2 y3 y4 y5 y6 y7 y8
        obtain ⟨⟨z0, z1, z2, z3, z4, z5, z6, z7, z8⟩, f0, f1, f2, f3, f4, f5, f6, f7, f8⟩ := Z3.out.blk.nine
        clear hb CK
        go_wp2
        exact bodyPost_ret (v := .tuple #[.agg #[.int .i64 0, .int .i64 0, .int .i64 0, .int .i64 0, .int .i64 0, .int .i64 0, .int .i64 0, .bool false, .bool false], .int .i64 4]) (by simp [results, Tryd.results17, go_sem, z0, z1, z2, z3, z4, z5, z6, z7, z8]) rfl (RdP.mk HR2.out (below_nine Z3.out.below (Nat.le_refl _) _ _ _ _ _ _ _ _ _))
      · have HR2 : Hid (R = (zc, 10)) := by show _ = _; rw [HR.out, rd_bad hp ht (by rw [hc]; decide), hc]
        rw [hc] at CK
        clear hp ht hc
        obtain ⟨cw, ch, cl, cd, cr, ci, cb, we, ca⟩ := c
        simp only [cfv, cfc, zc] at PA CK TE
        simp only [cfc, zc] at Z0
        go_enter Tryd.func17, Tryd.ntmps17
        go_wp2_with fail
        go_at_call 25
        refine PA.mono ?_
        rintro e v1 ⟨hb, rfl⟩
        have Z1 : Hid (Zer w v1) := Z0.out.trans hb
        have hz := Z1.out.lt
        obtain ⟨⟨z0, z1, z2, z3, z4, z5, z6, z7, z8⟩, f0, f1, f2, f3, f4, f5, f6, f7, f8⟩ := Z1.out.blk.nine
        clear hb PA
        go_wp2_with fail
        go_at_call 15
        refine (TE _ (HE.out.below (Z1.out.alloc _).below h6)).mono ?_
        rintro e v2 ⟨rfl, hb⟩
        have Z2 : Hid (Zer w v2) := (Z1.out.alloc _).trans hb
        have BK : Hid (Blk v2 v1.heap.size ⟨cw, ch, cl, cd, cr, ci, cb, we, ca⟩) := (Blk.new v1 ⟨cw, ch, cl, cd, cr, ci, cb, we, ca⟩).below hb
        obtain ⟨⟨y0, y1, y2, y3, y4, y5, y6, y7, y8⟩, -⟩ := BK.out.nine
        clear hb TE z0 z1 z2 z3 z4 z5 z6 z7 z8 f0 f1 f2 f3 f4 f5 f6 f7 f8
        go_wp2_with fail
        go_at_call 11
        refine (CK _).mono ?_
        rintro e v3 ⟨rfl, hb⟩
        have Z3 : Hid (Zer w v3) := Z2.out.trans hb
        clear y0 y1 y2 y3 y4 y5 y6 y7 y8
        obtain ⟨⟨z0, z1, z2, z3, z4, z5, z6, z7, z8⟩, f0, f1, f2, f3, f4, f5, f6, f7, f8⟩ := Z3.out.blk.nine
        clear hb CK
        go_wp2
        exact bodyPost_ret (v := .tuple #[.agg #[.int .i64 0, .int .i64 0, .int .i64 0, .int .i64 0, .int .i64 0, .int .i64 0, .int .i64 0, .bool false, .bool false], .int .i64 10]) (by simp [results, Tryd.results17, go_sem, z0, z1, z2, z3, z4, z5, z6, z7, z8]) rfl (RdP.mk HR2.out (below_nine Z3.out.below (Nat.le_refl _) _ _ _ _ _ _ _ _ _))
    · have hne : ((bs (txt c)).toList == s) = false := by rw [bs_toList]; simpa using ht
      have HR2 : Hid (R = (zc, 2)) := by show _ = _; rw [HR.out, rd_other hp ht]
      generalize bs (txt c) = S at *
      clear hp ht
      obtain ⟨cw, ch, cl, cd, cr, ci, cb, we, ca⟩ := c
      simp only [cfv, cfc, zc] at PA TE
      simp only [cfc, zc] at Z0
      go_enter Tryd.func17, Tryd.ntmps17
      go_wp2_with fail
      go_at_call 25
      refine PA.mono ?_
      rintro e v1 ⟨hb, rfl⟩
      have Z1 : Hid (Zer w v1) := Z0.out.trans hb
      have hz := Z1.out.lt
      obtain ⟨⟨z0, z1, z2, z3, z4, z5, z6, z7, z8⟩, f0, f1, f2, f3, f4, f5, f6, f7, f8⟩ := Z1.out.blk.nine
      clear hb PA
      go_wp2_with fail
      go_at_call 15
      refine (TE _ (HE.out.below (Z1.out.alloc _).below h6)).mono ?_
      rintro e v2 ⟨rfl, hb⟩
      have Z2 : Hid (Zer w v2) := (Z1.out.alloc _).trans hb
      clear z0 z1 z2 z3 z4 z5 z6 z7 z8 f0 f1 f2 f3 f4 f5 f6 f7 f8
      obtain ⟨⟨z0, z1, z2, z3, z4, z5, z6, z7, z8⟩, f0, f1, f2, f3, f4, f5, f6, f7, f8⟩ := Z2.out.blk.nine
      clear hb TE
      go_wp2
      exact bodyPost_ret (v := .tuple #[.agg #[.int .i64 0, .int .i64 0, .int .i64 0, .int .i64 0, .int .i64 0, .int .i64 0, .int .i64 0, .bool false, .bool false], .int .i64 2]) (by simp [results, Tryd.results17, go_sem, z0, z1, z2, z3, z4, z5, z6, z7, z8]) rfl (RdP.mk HR2.out (below_nine Z2.out.below (Nat.le_refl _) _ _ _ _ _ _ _ _ _))
end Go.Proofs.YtkebplapjkefiaaDoor
