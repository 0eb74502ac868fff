/-
  The walk of the document's Way. (Written by gen_rway.py.)
-/
import Derived.Test.YtcebfkkpclnmoaaDoorWay
import Derived.Test.YtcebfkkpclnmoaaDoorRstp
namespace Go.Proofs.YtcebfkkpclnmoaaDoor
open Go.RowKit

theorem below_drew (w : World) : Below w.heap.size w w.drew := (Below.refl _ _).drew
/-- The config's nine cells, and one that lay there when the call began. -/
theorem At.cells10 {w v : World} {c : Cf} (h : At w c v) {g x : Nat} {z : Value} (hg : g < w.heap.size) (h0 : w.cell? ⟨g, x, none⟩ = some z) :
    v.cell? ⟨w.heap.size, 0, none⟩ = some (.int .i64 c.w) ∧ v.cell? ⟨w.heap.size, 1, none⟩ = some (.int .i64 c.h) ∧ v.cell? ⟨w.heap.size, 2, none⟩ = some (.int .i64 c.l) ∧
    v.cell? ⟨w.heap.size, 3, none⟩ = some (.int .i64 c.d) ∧ v.cell? ⟨w.heap.size, 4, none⟩ = some (.int .i64 c.r) ∧ v.cell? ⟨w.heap.size, 5, none⟩ = some (.int .i64 c.i) ∧
    v.cell? ⟨w.heap.size, 6, none⟩ = some (.int .i64 c.b) ∧ v.cell? ⟨w.heap.size, 7, none⟩ = some (.bool c.we) ∧ v.cell? ⟨w.heap.size, 8, none⟩ = some (.bool c.ca) ∧ v.cell? ⟨g, x, none⟩ = some z :=
  ⟨h.cell 0, h.cell 1, h.cell 2, h.cell 3, h.cell 4, h.cell 5, h.cell 6, h.cell 7, h.cell 8, (h.below.cell (p := ⟨g, x, none⟩) hg).trans h0⟩

set_option maxRecDepth 100000 in
set_option maxHeartbeats 2000000 in
theorem rway_any (c : Cf) (a : Int) (s : Option Addr) (ts : List Int) (cap : Nat) (w : World) (hl : ts.length ≤ 200) (hr : RdA w s (vi ts)) :
    Calls Tryd.prog 20 #[cfv c, .int .i64 a, .slice s ts.length cap] w (Row w (wys c a ts)) := by
  obtain ⟨i0, ki, hz0, hz1, hz2⟩ := info_parts Tryd.info3
  have A0 : Hid (At w c (w.alloc (.cells (cfc c) 23))) := At.start w c
  have HR : Hid (RdA w s (vi ts)) := hr
  have K1 := ris_any c a
  have HL : Hid (ts.length ≤ 200) := hl
  clear hr
  cases ha : isN c a with
  | false =>
    have e : wys c a ts = [] := by unfold wys wyB; rw [ha]; rfl
    rw [e]
    rw [ha] at K1
    clear e ha HL hl
    generalize ts.length = n at *
    obtain ⟨cw, ch, cl, cd, cr, ci, cb, we, ca⟩ := c
    simp only [cfv, cfc] at *
    go_enter Tryd.func20, Tryd.ntmps20
    go_wp2_with fail
    go_at_call 30
    refine (K1 _).mono ?_
    rintro e v1 ⟨rfl, hb⟩
    have HA1 : Hid (At w _ v1) := A0.out.trans hb
    clear hb K1 
    go_wp2
    go_ret
    exact Row.mk (Own.nil _ _ _) HA1.out.below
  | true =>
    rw [ha] at K1
    obtain ⟨W, CU, GD, IV, I1, I2, I3, I4, I5, I6, J7, I8, I9, I10, I11⟩ := way_inv (c := c) (a := a) ts ha hl
    have IS := fun m => ris_any c m
    have SP := fun m g => rstep_any c m g
    have BE := fun m g => rbeside_any c m (stp c m g)
    have NE : ∀ m g, bsN c m (stp c m g) = nx c m g := fun _ _ => rfl
    simp only [NE] at BE
    clear NE J7 ha hl
    generalize wys c a ts = R at *
    generalize stp c = SPF at *
    generalize stB c = SBF at *
    generalize nx c = NXF at *
    generalize apt c = APF at *
    generalize bsB c = GB at *
    generalize isN c = NN at *
    have HI4 : Hid (∀ k, k < ts.length → GD k → NN (ts.getD k 0) = true → GD (k + 1)) := I4
    have HI5 : Hid (∀ k, k < ts.length → NN (ts.getD k 0) = false → R = []) := I5
    have HI6 : Hid (GD ts.length → W ts.length = R) := I6
    have HI8 : Hid (∀ k, k < ts.length → GD (k + 1) → IV k (CU k) (W k)) := I8
    have HI9 : Hid (∀ k m X, k < ts.length → IV k m X → X.length ≤ 900000) := I9
    have HI10 : Hid (∀ k m X, k < ts.length → IV k m X → m ≠ ts.getD k 0 → IV k (NXF m (ts.getD k 0)) (X ++ [NXF m (ts.getD k 0)]) ∧ APF (NXF m (ts.getD k 0)) (ts.getD k 0) < APF m (ts.getD k 0)) := I10
    have HI11 : Hid (∀ k X, k < ts.length → IV k (ts.getD k 0) X → X = W (k + 1) ∧ CU (k + 1) = ts.getD k 0) := I11
    have HI1 : Hid (W 0 = [a] ∧ CU 0 = a ∧ GD 0) := ⟨I1, I2, I3⟩
    clear I1 I2 I3 I4 I5 I6 I8 I9 I10 I11
    obtain ⟨n, hn⟩ : ∃ n, ts.length = n := ⟨_, rfl⟩
    have HN : Hid (ts.length = n) := hn
    rw [hn] at HI4 HI5 HI6 HI8 HI9 HI10 HI11 HL ⊢
    clear hn
    have hn2 : n ≤ 200 := HL.out
    obtain ⟨cw, ch, cl, cd, cr, ci, cb, we, ca⟩ := c
    simp only [cfv, cfc] at *
    go_enter Tryd.func20, Tryd.ntmps20
    go_wp2_with fail
    go_at_call 30
    refine (K1 _).mono ?_
    rintro e v1 ⟨rfl, hb⟩
    have HA1 : Hid (At w _ v1) := A0.out.trans hb
    clear hb K1 
    have o0 : Hid (Own 3 (v1.alloc (.cells #[.int .i64 a] 3)) (w.heap.size + 1) (.slice (some ⟨v1.heap.size, 0, none⟩) 1 1) (vi [a])) := Own.lit (e := 3) (w := v1) (B := w.heap.size + 1) #[.int .i64 a] HA1.out.size (by simp)
    have hA2 : Hid (At w ⟨cw, ch, cl, cd, cr, ci, cb, we, ca⟩ (v1.alloc (.cells #[.int .i64 a] 3))) := HA1.out.alloc _
    go_wp2_with fail
    go_loopw [1, 7, 8] (fun x v i wr => ∃ k : Nat, k ≤ n ∧ i = .int .i64 k ∧ x = .int .i64 (CU k) ∧ Hid (GD k) ∧ Own 3 wr (w.heap.size + 1) v (vi (W k)) ∧ At w ⟨cw, ch, cl, cd, cr, ci, cb, we, ca⟩ wr) (fun _ _ i _ => n - (RowKit.intOf i).toNat)
    case atStart => exact ⟨0, Nat.zero_le _, rfl, by rw [HI1.out.2.1], HI1.out.2.2, by rw [HI1.out.1]; exact o0.out, hA2.out⟩
    case round =>
      obtain ⟨k, hk, rfl, rfl, HG, own, hat⟩ := hrel
      have HAT : Hid (At w ⟨cw, ch, cl, cd, cr, ci, cb, we, ca⟩ wr) := hat
      have HOWN : Hid (Own 3 wr (w.heap.size + 1) _ (vi (W k))) := own
      clear own hat o0 hA2 HA1
      by_cases hlt : k < n
      · have hltz : (k : Int) < (n : Int) := by omega
        have hv := vi_at (l := ts) (k := k) (by rw [HN.out]; exact hlt)
        obtain ⟨g, o, rfl, hg, c0⟩ := HR.out k _ hv
        have j4 := HI4.out k hlt HG.out
        have j5 := HI5.out k hlt
        have j8 := HI8.out k hlt
        have i9 := fun m X => HI9.out k m X hlt
        have i10 := fun m X => HI10.out k m X hlt
        have i11 := fun X => HI11.out k X hlt
        have K2 := IS (ts.getD k 0)
        clear hv IS
        generalize ts.getD k 0 = z at *
        generalize IV k = J at *
        have Hi9 : Hid (∀ m X, J m X → X.length ≤ 900000) := i9
        have Hi10 : Hid (∀ m X, J m X → m ≠ z → J (NXF m z) (X ++ [NXF m z]) ∧ APF (NXF m z) z < APF m z) := i10
        have Hi11 : Hid (∀ X, J z X → X = W (k + 1) ∧ CU (k + 1) = z) := i11
        clear i9 i10 i11
        have D1 := HAT.out.drew
        have SD := D1.cells10 hg c0
        cases hzn : NN z with
        | false =>
          rw [hzn] at K2
          have e := j5 hzn
          subst e
          clear j4 j5 j8 hzn
          go_wp2_with fail
          go_region_held3 (fun v => v.cell? ⟨w.heap.size, 0, none⟩ = some (.int .i64 cw) ∧ v.cell? ⟨w.heap.size, 1, none⟩ = some (.int .i64 ch) ∧ v.cell? ⟨w.heap.size, 2, none⟩ = some (.int .i64 cl) ∧ v.cell? ⟨w.heap.size, 3, none⟩ = some (.int .i64 cd) ∧ v.cell? ⟨w.heap.size, 4, none⟩ = some (.int .i64 cr) ∧ v.cell? ⟨w.heap.size, 5, none⟩ = some (.int .i64 ci) ∧ v.cell? ⟨w.heap.size, 6, none⟩ = some (.int .i64 cb) ∧ v.cell? ⟨w.heap.size, 7, none⟩ = some (.bool we) ∧ v.cell? ⟨w.heap.size, 8, none⟩ = some (.bool ca) ∧ v.cell? ⟨g, o + k, none⟩ = some (.int .i64 z))
            (first | exact Sa | exact SD | go_keep)
            (first
              | (go_at_call 30; (with_reducible refine (K2 _).mono ?_); rintro e va ⟨rfl, hbva⟩; have Ta := D1.trans hbva; have Sa := Ta.cells10 hg c0))
          have HAT1 : Hid (At w ⟨cw, ch, cl, cd, cr, ci, cb, we, ca⟩ va) := Ta
          have HBV : Hid (Below wr.heap.size wr.drew va) := hbva
          clear Ta Sa D1 SD hbva K2 HAT
          go_wp2
          go_ret
          exact Row.mk (Own.nil _ _ _) HAT1.out.below
        | true =>
          rw [hzn] at K2
          have HG2 : Hid (GD (k + 1)) := j4 hzn
          have HJ : Hid (J (CU k) (W k)) := j8 (j4 hzn)
          clear j4 j5 j8 hzn HG
          generalize CU k = m0 at *
          generalize W k = W0 at *
          go_wp2_with fail
          go_region_held3 (fun v => v.cell? ⟨w.heap.size, 0, none⟩ = some (.int .i64 cw) ∧ v.cell? ⟨w.heap.size, 1, none⟩ = some (.int .i64 ch) ∧ v.cell? ⟨w.heap.size, 2, none⟩ = some (.int .i64 cl) ∧ v.cell? ⟨w.heap.size, 3, none⟩ = some (.int .i64 cd) ∧ v.cell? ⟨w.heap.size, 4, none⟩ = some (.int .i64 cr) ∧ v.cell? ⟨w.heap.size, 5, none⟩ = some (.int .i64 ci) ∧ v.cell? ⟨w.heap.size, 6, none⟩ = some (.int .i64 cb) ∧ v.cell? ⟨w.heap.size, 7, none⟩ = some (.bool we) ∧ v.cell? ⟨w.heap.size, 8, none⟩ = some (.bool ca) ∧ v.cell? ⟨g, o + k, none⟩ = some (.int .i64 z))
            (first | exact Sa | exact SD | go_keep)
            (first
              | (go_at_call 30; (with_reducible refine (K2 _).mono ?_); rintro e va ⟨rfl, hbva⟩; have Ta := D1.trans hbva; have Sa := Ta.cells10 hg c0))
          have HAT1 : Hid (At w ⟨cw, ch, cl, cd, cr, ci, cb, we, ca⟩ va) := Ta
          have HBV : Hid (Below wr.heap.size wr.drew va) := hbva
          clear Ta Sa D1 SD hbva K2 HAT
          have HOWN1 : Hid (Own 3 va (w.heap.size + 1) _ (vi W0)) := HOWN.out.below ((below_drew wr).trans HBV.out)
          clear HOWN
          go_wp2_with fail
          go_loopw [1, 7] (fun x v wi => ∃ (m : Int) (X : List Int), x = .int .i64 m ∧ Hid (J m X) ∧ Own 3 wi (w.heap.size + 1) v (vi X) ∧ At w ⟨cw, ch, cl, cd, cr, ci, cb, we, ca⟩ wi) (fun x _ _ => APF (RowKit.intOf x) z)
          case atStart => exact ⟨m0, W0, rfl, HJ.out, HOWN1.out, HAT1.out⟩
          case round =>
            obtain ⟨m, X, rfl, HX, own, hat⟩ := hrel
            have HAT2 : Hid (At w ⟨cw, ch, cl, cd, cr, ci, cb, we, ca⟩ wr) := hat
            have HOWN2 : Hid (Own 3 wr (w.heap.size + 1) _ (vi X)) := own
            have c1 : wr.cell? ⟨g, o + k, none⟩ = some (.int .i64 z) := (hat.below.cell (p := ⟨g, o + k, none⟩) hg).trans c0
            clear own hat HOWN1 HAT1 HJ
            by_cases he : m = z
            · subst he
              obtain ⟨rfl, e2⟩ := Hi11.out X HX.out
              have E2 : Hid (CU (k + 1) = m) := e2
              have he' : (m != m) = false := by simp
              clear e2 c0 hg
              go_wp2
              go_roundw
              case rel => exact ⟨k + 1, by omega, by go_num, by rw [E2.out], HG2.out, HOWN2.out, HAT2.out⟩
              case measure => simp [RowKit.intOf]; omega
            · have he' : (m != z) = true := by simpa using he
              have hx := Hi10.out m X HX.out he
              have hll : (vi X).length ≤ 1000000 := by rw [vi_len]; have := Hi9.out m X HX.out; omega
              have hvs : Hid (vi X ++ [.int .i64 (NXF m z)] = vi (X ++ [NXF m z])) := vi_snoc X _
              have HXX : Hid (J (NXF m z) (X ++ [NXF m z]) ∧ APF (NXF m z) z < APF m z) := hx
              clear hx
              have K3 := SP m z
              have K4 := BE m z
              clear SP BE
              generalize SPF m z = p at *
              generalize SBF m z = q at *
              generalize NXF m z = m' at *
              generalize GB m p = gb at *
              have D1 := HAT2.out.drew
              have SD := D1.cells10 hg c0
              go_wp2_with fail
              go_region_held3 (fun v => v.cell? ⟨w.heap.size, 0, none⟩ = some (.int .i64 cw) ∧ v.cell? ⟨w.heap.size, 1, none⟩ = some (.int .i64 ch) ∧ v.cell? ⟨w.heap.size, 2, none⟩ = some (.int .i64 cl) ∧ v.cell? ⟨w.heap.size, 3, none⟩ = some (.int .i64 cd) ∧ v.cell? ⟨w.heap.size, 4, none⟩ = some (.int .i64 cr) ∧ v.cell? ⟨w.heap.size, 5, none⟩ = some (.int .i64 ci) ∧ v.cell? ⟨w.heap.size, 6, none⟩ = some (.int .i64 cb) ∧ v.cell? ⟨w.heap.size, 7, none⟩ = some (.bool we) ∧ v.cell? ⟨w.heap.size, 8, none⟩ = some (.bool ca) ∧ v.cell? ⟨g, o + k, none⟩ = some (.int .i64 z))
                (first | exact Sa | exact SD | go_keep)
                (first
                  | (go_at_call 16; (with_reducible refine (K3 _).mono ?_); rintro e va ⟨rfl, hbva⟩; have Ta := D1.trans hbva; have Sa := Ta.cells10 hg c0))
              have HAT3 : Hid (At w ⟨cw, ch, cl, cd, cr, ci, cb, we, ca⟩ va) := Ta
              have HBV : Hid (Below wr.heap.size wr.drew va) := hbva
              clear Ta Sa D1 SD hbva K3 HAT2 c1
              have HOWN3 : Hid (Own 3 va (w.heap.size + 1) _ (vi X)) := HOWN2.out.below ((below_drew wr).trans HBV.out)
              clear HOWN2 c0 hg HBV
              obtain ⟨x0, x1, x2, x3, x4, x5, x6, x7, x8⟩ := HAT3.out.cells
              simp only at x0 x1 x2 x3 x4 x5 x6 x7 x8
              go_wp2_with fail
              go_at_call 36
              refine (K4 _).mono ?_
              rintro e vb ⟨rfl, hb⟩
              have HAT4 : Hid (At w ⟨cw, ch, cl, cd, cr, ci, cb, we, ca⟩ vb) := HAT3.out.trans hb
              have own : Own 3 vb (w.heap.size + 1) _ (vi X) := HOWN3.out.below hb
              have hsa : w.heap.size + 1 ≤ vb.heap.size := HAT4.out.size
              clear hb K4 HAT3 HOWN3 x0 x1 x2 x3 x4 x5 x6 x7 x8
              go_wp2_with (at_builtin; refine wpList_app_one rfl (.tmp 56) (.tmp 58) 31 3 i0 (.int .i64 0) 8 rfl Tryd.underlying31 ki hz0 hz1 hz2 rfl (by decide) (w.heap.size + 1) vb _ _ (.int .i64 m') rfl own rfl rfl hll hsa ?_; intro v1' wb o1 kb; have ab : Hid (At w ⟨cw, ch, cl, cd, cr, ci, cb, we, ca⟩ wb) := At.of (kb.2.1 _ HAT4.out); clear kb own)
              rw [hvs.out] at o1
              go_roundw
              case rel => exact ⟨m', X ++ [m'], rfl, HXX.out.1, o1, ab.out⟩
              case measure => simpa [RowKit.intOf] using HXX.out.2
      · obtain rfl : k = n := by omega
        have hltz : ¬ (k : Int) < k := by omega
        have e := HI6.out HG.out
        have HE : Hid (W k = R) := e
        clear e
        go_wp2
        go_ret
        exact Row.mk (by rw [← HE.out]; exact HOWN.out.mono (by omega)) HAT.out.below
end Go.Proofs.YtcebfkkpclnmoaaDoor
