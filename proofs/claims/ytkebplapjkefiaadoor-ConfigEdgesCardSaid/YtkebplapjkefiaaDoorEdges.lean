/-
  The walk of ConfigEdges.
-/
import Derived.Test.YtkebplapjkefiaaDoorEq
import Derived.Test.YtkebplapjkefiaaDoorSmall
import Derived.Deep.CutRange
namespace Go.Proofs.YtkebplapjkefiaaDoor
open Go.RowKit Go.Lib

theorem outB_in {lo hi x : Int} (h1 : lo ≤ x) (h2 : x ≤ hi) : outB lo hi x = false := by
  unfold outB
  simp only [Bool.or_eq_false_iff, decide_eq_false_iff_not]
  omega
theorem outB_not {lo hi x : Int} (h : ¬ (lo ≤ x ∧ x ≤ hi)) : outB lo hi x = true := by
  unfold outB
  simp only [Bool.or_eq_true, decide_eq_true_eq]
  omega
theorem chk_fits {c : Cf} (f : Fits c) : chk c = 0 := by
  have e1 : t1 c = false := by unfold t1; rw [outB_in f.w1 f.w2, outB_in f.h1 f.h2]; rfl
  have e2 : t2 c = false := by
    unfold t2
    apply outB_in
    · cases h : c.ca
      · simp [f.l1]
      · simp [f.lc h]
    · exact f.l2
  have e3 : t3 c = false := by unfold t3; rw [outB_in f.d1 f.d2, outB_in f.r1 f.r2, outB_in f.i1 f.i2]; rfl
  have e4 : t4 c = false := by unfold t4; rw [outB_in f.b1 f.b2]
  unfold chk
  rw [e1, e2, e3, e4]
  rfl
theorem chk_size {c : Cf} (h : outB 1 64 c.w = true ∨ outB 1 64 c.h = true) : chk c = 4 := by
  have e1 : t1 c = true := by
    unfold t1
    rcases h with h | h <;> rw [h] <;> simp
  unfold chk
  rw [e1]
  rfl
theorem chk_conf {c : Cf} (h1 : t1 c = false) (h : t2 c = true ∨ t3 c = true ∨ t4 c = true) : chk c = 10 := by
  unfold chk
  rw [h1]
  rcases h with h | h | h <;> rw [h] <;> cases t2 c <;> cases t3 c <;> cases t4 c <;> first | rfl | simp_all
theorem nod_none {c : Cf} {k : Int} (h : chk c = k) (hk : k ≠ 0) : nod c = 0 := by unfold nod; rw [if_neg (by rw [h]; exact hk)]

theorem Blk.all {v : World} {b : Nat} {c : Cf} (h : Blk v b c) (d : Cf) :
    Blk (((((((((v.setCell ⟨b, 0, none⟩ (.int .i64 d.w)).setCell ⟨b, 1, none⟩ (.int .i64 d.h)).setCell ⟨b, 2, none⟩ (.int .i64 d.l)).setCell ⟨b, 3, none⟩ (.int .i64 d.d)).setCell ⟨b, 4, none⟩ (.int .i64 d.r)).setCell ⟨b, 5, none⟩ (.int .i64 d.i)).setCell ⟨b, 6, none⟩ (.int .i64 d.b)).setCell ⟨b, 7, none⟩ (.bool d.we)).setCell ⟨b, 8, none⟩ (.bool d.ca)) b d := by
  unfold Blk at h ⊢
  simp [World.setCell, Array.getElem?_modify, h]
theorem Blk.last {v : World} {b : Nat} {c : Cf} (h : Blk v b c) (t : Bool) : Blk (v.setCell ⟨b, 8, none⟩ (.bool t)) b ⟨c.w, c.h, c.l, c.d, c.r, c.i, c.b, c.we, t⟩ := by
  unfold Blk at h ⊢
  simp [World.setCell, Array.getElem?_modify, h]

/-- The config's block holds a config that may be. -/
def SmP (w wc : World) : Prop := ∃ c', Blk wc w.heap.size c' ∧ Fits c' ∧ Below w.heap.size w wc

theorem small_form (c : Cf) (w : World) : Calls Tryd.prog 19 #[cfv c] w fun e w' => ∃ dw dh dl dd dr di db de da, e = .returned (.agg #[.int .i64 dw, .int .i64 dh, .int .i64 dl, .int .i64 dd, .int .i64 dr, .int .i64 di, .int .i64 db, .bool de, .bool da]) ∧ Below w.heap.size w w' ∧ Fits ⟨dw, dh, dl, dd, dr, di, db, de, da⟩ :=
  (small_any c w).mono fun _ _ ⟨c', he, hb, f⟩ => ⟨c'.w, c'.h, c'.l, c'.d, c'.r, c'.i, c'.b, c'.we, c'.ca, he, hb, f⟩

set_option maxRecDepth 100000 in
set_option maxHeartbeats 2000000 in
theorem edges_0 (c : Cf) (x n : Int) (e : (IntKind.u64.wrap x).tmod 7 = 0) (w : World) (hE : Env w) : Calls Tryd.prog 7 #[cfv c, .int .i64 x, .int .i64 n] w fun e w' => e = .returned (.bool true) ∧ Below w.heap.size w w' := by
  have LV := lives_any _ (At.env (At.start w c) hE)
  have SM := fun v => small_form c v
  have A_v0 : Hid (At w c (w.alloc (.cells (cfc c) 23))) := At.start w c
  clear hE
  obtain ⟨cw, ch, cl, cd, cr, ci, cb, we, ca⟩ := c
  simp only [cfv, cfc] at *
  by_cases hin : 1 ≤ n ∧ n ≤ 64
  · go_enter Tryd.func7, Tryd.ntmps7
    go_wp2_with fail
    go_at_call 8
    refine LV.mono ?_
    rintro e v1 ⟨rfl, hb⟩
    have A_v1 : Hid (At w _ v1) := A_v0.out.trans hb
    clear hb LV
    go_upto_region 3 with fail
    go_cut [] from 13 to 14 (fun wc => SmP w wc)
    case first =>
      obtain ⟨x0, x1, x2, x3, x4, x5, x6, x7, x8⟩ := A_v1.out.cells
      simp only at x0 x1 x2 x3 x4 x5 x6 x7 x8
      go_wp2_with fail
      go_at_call 19
      refine (SM _).mono ?_
      rintro e v2 ⟨dw, dh, dl, dd, dr, di, db, de, da, rfl, hb, f⟩
      have A_v2 : Hid (At w _ v2) := A_v1.out.trans hb
      have hz2 : w.heap.size < v2.heap.size := by have := A_v2.out.size; omega
      have KB : Hid (Blk v2 w.heap.size _) := Blk.keep (Blk.new w _) A_v2.out (by omega)
      clear x0 x1 x2 x3 x4 x5 x6 x7 x8 hb SM
      obtain ⟨⟨x0, x1, x2, x3, x4, x5, x6, x7, x8⟩, g0, g1, g2, g3, g4, g5, g6, g7, g8⟩ := KB.out.nine
      simp only at x0 x1 x2 x3 x4 x5 x6 x7 x8
      have HF : Hid (Fits ⟨dw, dh, dl, dd, dr, di, db, de, da⟩) := f
      clear f
      go_wp2_with fail
      go_meet
      exact ⟨⟨dw, dh, dl, dd, dr, di, db, de, da⟩, KB.out.all ⟨dw, dh, dl, dd, dr, di, db, de, da⟩, HF.out, below_nine A_v2.out.below (Nat.le_refl _) _ _ _ _ _ _ _ _ _⟩
    case rest =>
    obtain ⟨⟨dw, dh, dl, dd, dr, di, db, de, da⟩, hkb, f, hb⟩ := hcut
    obtain ⟨v2, rfl⟩ : ∃ v2 : World, v2 = wc := ⟨_, rfl⟩
    have KB : Hid (Blk v2 w.heap.size ⟨dw, dh, dl, dd, dr, di, db, de, da⟩) := hkb
    have B1 : Hid (Below w.heap.size w v2) := hb
    have hz2 : w.heap.size < v2.heap.size := hkb.lt
    clear hkb hb SM
    obtain ⟨⟨x0, x1, x2, x3, x4, x5, x6, x7, x8⟩, g0, g1, g2, g3, g4, g5, g6, g7, g8⟩ := KB.out.nine
    simp only at x0 x1 x2 x3 x4 x5 x6 x7 x8
    have K2 : Hid (Blk ((v2.setCell ⟨w.heap.size, 8, none⟩ (.bool false)).setCell ⟨w.heap.size, 0, none⟩ (.int .i64 n)) w.heap.size ⟨n, dh, dl, dd, dr, di, db, de, false⟩) := (KB.out.last false).set 0 (by omega) n
    have B2 : Hid (Below w.heap.size w ((v2.setCell ⟨w.heap.size, 8, none⟩ (.bool false)).setCell ⟨w.heap.size, 0, none⟩ (.int .i64 n))) := (B1.out.setCell (Nat.le_refl _) _).setCell (Nat.le_refl _) _
    have CC := fun v => check_any ⟨n, dh, dl, dd, dr, di, db, de, false⟩ v
    rw [chk_fits (c := ⟨n, dh, dl, dd, dr, di, db, de, false⟩) ⟨hin.1, hin.2, f.h1, f.h2, f.l1, f.l2, fun h => absurd h Bool.false_ne_true, f.d1, f.d2, f.r1, f.r2, f.i1, f.i2, f.b1, f.b2⟩] at CC
    simp only [cfv, cfc] at CC
    obtain ⟨hn1, hn2⟩ := hin
    clear f
    go_wp2_with fail
    go_at_call 11
    refine (CC _).mono ?_
    rintro e v3 ⟨rfl, hb⟩
    have B3 : Hid (Below w.heap.size w v3) := (B2.out.alloc B2.out.size _).trans (hb.mono (B2.out.alloc B2.out.size _).size)
    clear hb CC x0 x1 x2 x3 x4 x5 x6 x7 x8 g0 g1 g2 g3 g4 g5 g6 g7 g8
    go_wp2
    go_ret
    exact ⟨rfl, B3.out⟩
  · rcases (by omega : n < 1 ∨ (64 < n ∧ 1 ≤ n)) with hlo | ⟨hup, hlo⟩
    · go_enter Tryd.func7, Tryd.ntmps7
      go_wp2_with fail
      go_at_call 8
      refine LV.mono ?_
      rintro e v1 ⟨rfl, hb⟩
      have A_v1 : Hid (At w _ v1) := A_v0.out.trans hb
      clear hb LV
      go_upto_region 3 with fail
      go_cut [] from 13 to 14 (fun wc => SmP w wc)
      case first =>
        obtain ⟨x0, x1, x2, x3, x4, x5, x6, x7, x8⟩ := A_v1.out.cells
        simp only at x0 x1 x2 x3 x4 x5 x6 x7 x8
        go_wp2_with fail
        go_at_call 19
        refine (SM _).mono ?_
        rintro e v2 ⟨dw, dh, dl, dd, dr, di, db, de, da, rfl, hb, f⟩
        have A_v2 : Hid (At w _ v2) := A_v1.out.trans hb
        have hz2 : w.heap.size < v2.heap.size := by have := A_v2.out.size; omega
        have KB : Hid (Blk v2 w.heap.size _) := Blk.keep (Blk.new w _) A_v2.out (by omega)
        clear x0 x1 x2 x3 x4 x5 x6 x7 x8 hb SM
        obtain ⟨⟨x0, x1, x2, x3, x4, x5, x6, x7, x8⟩, g0, g1, g2, g3, g4, g5, g6, g7, g8⟩ := KB.out.nine
        simp only at x0 x1 x2 x3 x4 x5 x6 x7 x8
        have HF : Hid (Fits ⟨dw, dh, dl, dd, dr, di, db, de, da⟩) := f
        clear f
        go_wp2_with fail
        go_meet
        exact ⟨⟨dw, dh, dl, dd, dr, di, db, de, da⟩, KB.out.all ⟨dw, dh, dl, dd, dr, di, db, de, da⟩, HF.out, below_nine A_v2.out.below (Nat.le_refl _) _ _ _ _ _ _ _ _ _⟩
      case rest =>
      obtain ⟨⟨dw, dh, dl, dd, dr, di, db, de, da⟩, hkb, f, hb⟩ := hcut
      obtain ⟨v2, rfl⟩ : ∃ v2 : World, v2 = wc := ⟨_, rfl⟩
      have KB : Hid (Blk v2 w.heap.size ⟨dw, dh, dl, dd, dr, di, db, de, da⟩) := hkb
      have B1 : Hid (Below w.heap.size w v2) := hb
      have hz2 : w.heap.size < v2.heap.size := hkb.lt
      clear hkb hb SM
      obtain ⟨⟨x0, x1, x2, x3, x4, x5, x6, x7, x8⟩, g0, g1, g2, g3, g4, g5, g6, g7, g8⟩ := KB.out.nine
      simp only at x0 x1 x2 x3 x4 x5 x6 x7 x8
      have K2 : Hid (Blk ((v2.setCell ⟨w.heap.size, 8, none⟩ (.bool false)).setCell ⟨w.heap.size, 0, none⟩ (.int .i64 n)) w.heap.size ⟨n, dh, dl, dd, dr, di, db, de, false⟩) := (KB.out.last false).set 0 (by omega) n
      have B2 : Hid (Below w.heap.size w ((v2.setCell ⟨w.heap.size, 8, none⟩ (.bool false)).setCell ⟨w.heap.size, 0, none⟩ (.int .i64 n))) := (B1.out.setCell (Nat.le_refl _) _).setCell (Nat.le_refl _) _
      have CC := fun v => check_any ⟨n, dh, dl, dd, dr, di, db, de, false⟩ v
      have hk := (show chk ⟨n, dh, dl, dd, dr, di, db, de, false⟩ = 4 from chk_size (Or.inl (outB_not hin)))
      rw [hk] at CC
      have CD := fun v => check_any ⟨0, dh, dl, dd, dr, di, 0, de, false⟩ v
      rw [chk_size (c := ⟨0, dh, dl, dd, dr, di, 0, de, false⟩) (Or.inl rfl)] at CD
      have NN := fun v => nodes_any ⟨n, dh, dl, dd, dr, di, db, de, false⟩ v
      rw [nod_none hk (by decide)] at NN
      simp only [cfv, cfc] at CC CD NN
      clear f hk hin
      go_wp2_with fail
      go_at_call 11
      refine (CC _).mono ?_
      rintro e v3 ⟨rfl, hb⟩
      have HK3 : Hid (Blk v3 w.heap.size ⟨n, dh, dl, dd, dr, di, db, de, false⟩) := (K2.out.alloc (.cells (cfc ⟨0, dh, dl, dd, dr, di, 0, de, false⟩) 23)).below hb
      have B3 : Hid (Below w.heap.size w v3) := (B2.out.alloc B2.out.size _).trans (hb.mono (B2.out.alloc B2.out.size _).size)
      have hsv : ((v2.setCell ⟨w.heap.size, 8, none⟩ (.bool false)).setCell ⟨w.heap.size, 0, none⟩ (.int .i64 n)).heap.size = v2.heap.size := by simp
      have hd3 := (Blk.new ((v2.setCell ⟨w.heap.size, 8, none⟩ (.bool false)).setCell ⟨w.heap.size, 0, none⟩ (.int .i64 n)) ⟨0, dh, dl, dd, dr, di, 0, de, false⟩).below hb
      rw [hsv] at hd3
      have HD3 : Hid (Blk v3 v2.heap.size ⟨0, dh, dl, dd, dr, di, 0, de, false⟩) := hd3
      clear hb CC x0 x1 x2 x3 x4 x5 x6 x7 x8 g0 g1 g2 g3 g4 g5 g6 g7 g8 hsv hd3
      obtain ⟨⟨x0, x1, x2, x3, x4, x5, x6, x7, x8⟩, -⟩ := HD3.out.nine
      simp only at x0 x1 x2 x3 x4 x5 x6 x7 x8
      go_wp2_with fail
      go_at_call 11
      refine (CD _).mono ?_
      rintro e v4 ⟨rfl, hb⟩
      have B4 : Hid (Below w.heap.size w v4) := B3.out.trans (hb.mono B3.out.size)
      have HK4 : Hid (Blk v4 w.heap.size ⟨n, dh, dl, dd, dr, di, db, de, false⟩) := HK3.out.below hb
      clear hb CD x0 x1 x2 x3 x4 x5 x6 x7 x8
      obtain ⟨⟨x0, x1, x2, x3, x4, x5, x6, x7, x8⟩, -⟩ := HK4.out.nine
      simp only at x0 x1 x2 x3 x4 x5 x6 x7 x8
      go_wp2_with fail
      go_at_call 13
      refine (NN _).mono ?_
      rintro e v5 ⟨rfl, hb⟩
      have B5 : Hid (Below w.heap.size w v5) := B4.out.trans (hb.mono B4.out.size)
      clear hb NN x0 x1 x2 x3 x4 x5 x6 x7 x8
      go_wp2
      go_ret
      exact ⟨rfl, B5.out⟩
    · go_enter Tryd.func7, Tryd.ntmps7
      go_wp2_with fail
      go_at_call 8
      refine LV.mono ?_
      rintro e v1 ⟨rfl, hb⟩
      have A_v1 : Hid (At w _ v1) := A_v0.out.trans hb
      clear hb LV
      go_upto_region 3 with fail
      go_cut [] from 13 to 14 (fun wc => SmP w wc)
      case first =>
        obtain ⟨x0, x1, x2, x3, x4, x5, x6, x7, x8⟩ := A_v1.out.cells
        simp only at x0 x1 x2 x3 x4 x5 x6 x7 x8
        go_wp2_with fail
        go_at_call 19
        refine (SM _).mono ?_
        rintro e v2 ⟨dw, dh, dl, dd, dr, di, db, de, da, rfl, hb, f⟩
        have A_v2 : Hid (At w _ v2) := A_v1.out.trans hb
        have hz2 : w.heap.size < v2.heap.size := by have := A_v2.out.size; omega
        have KB : Hid (Blk v2 w.heap.size _) := Blk.keep (Blk.new w _) A_v2.out (by omega)
        clear x0 x1 x2 x3 x4 x5 x6 x7 x8 hb SM
        obtain ⟨⟨x0, x1, x2, x3, x4, x5, x6, x7, x8⟩, g0, g1, g2, g3, g4, g5, g6, g7, g8⟩ := KB.out.nine
        simp only at x0 x1 x2 x3 x4 x5 x6 x7 x8
        have HF : Hid (Fits ⟨dw, dh, dl, dd, dr, di, db, de, da⟩) := f
        clear f
        go_wp2_with fail
        go_meet
        exact ⟨⟨dw, dh, dl, dd, dr, di, db, de, da⟩, KB.out.all ⟨dw, dh, dl, dd, dr, di, db, de, da⟩, HF.out, below_nine A_v2.out.below (Nat.le_refl _) _ _ _ _ _ _ _ _ _⟩
      case rest =>
      obtain ⟨⟨dw, dh, dl, dd, dr, di, db, de, da⟩, hkb, f, hb⟩ := hcut
      obtain ⟨v2, rfl⟩ : ∃ v2 : World, v2 = wc := ⟨_, rfl⟩
      have KB : Hid (Blk v2 w.heap.size ⟨dw, dh, dl, dd, dr, di, db, de, da⟩) := hkb
      have B1 : Hid (Below w.heap.size w v2) := hb
      have hz2 : w.heap.size < v2.heap.size := hkb.lt
      clear hkb hb SM
      obtain ⟨⟨x0, x1, x2, x3, x4, x5, x6, x7, x8⟩, g0, g1, g2, g3, g4, g5, g6, g7, g8⟩ := KB.out.nine
      simp only at x0 x1 x2 x3 x4 x5 x6 x7 x8
      have K2 : Hid (Blk ((v2.setCell ⟨w.heap.size, 8, none⟩ (.bool false)).setCell ⟨w.heap.size, 0, none⟩ (.int .i64 n)) w.heap.size ⟨n, dh, dl, dd, dr, di, db, de, false⟩) := (KB.out.last false).set 0 (by omega) n
      have B2 : Hid (Below w.heap.size w ((v2.setCell ⟨w.heap.size, 8, none⟩ (.bool false)).setCell ⟨w.heap.size, 0, none⟩ (.int .i64 n))) := (B1.out.setCell (Nat.le_refl _) _).setCell (Nat.le_refl _) _
      have CC := fun v => check_any ⟨n, dh, dl, dd, dr, di, db, de, false⟩ v
      have hk := (show chk ⟨n, dh, dl, dd, dr, di, db, de, false⟩ = 4 from chk_size (Or.inl (outB_not hin)))
      rw [hk] at CC
      have CD := fun v => check_any ⟨0, dh, dl, dd, dr, di, 0, de, false⟩ v
      rw [chk_size (c := ⟨0, dh, dl, dd, dr, di, 0, de, false⟩) (Or.inl rfl)] at CD
      have NN := fun v => nodes_any ⟨n, dh, dl, dd, dr, di, db, de, false⟩ v
      rw [nod_none hk (by decide)] at NN
      simp only [cfv, cfc] at CC CD NN
      clear f hk hin
      go_wp2_with fail
      go_at_call 11
      refine (CC _).mono ?_
      rintro e v3 ⟨rfl, hb⟩
      have HK3 : Hid (Blk v3 w.heap.size ⟨n, dh, dl, dd, dr, di, db, de, false⟩) := (K2.out.alloc (.cells (cfc ⟨0, dh, dl, dd, dr, di, 0, de, false⟩) 23)).below hb
      have B3 : Hid (Below w.heap.size w v3) := (B2.out.alloc B2.out.size _).trans (hb.mono (B2.out.alloc B2.out.size _).size)
      have hsv : ((v2.setCell ⟨w.heap.size, 8, none⟩ (.bool false)).setCell ⟨w.heap.size, 0, none⟩ (.int .i64 n)).heap.size = v2.heap.size := by simp
      have hd3 := (Blk.new ((v2.setCell ⟨w.heap.size, 8, none⟩ (.bool false)).setCell ⟨w.heap.size, 0, none⟩ (.int .i64 n)) ⟨0, dh, dl, dd, dr, di, 0, de, false⟩).below hb
      rw [hsv] at hd3
      have HD3 : Hid (Blk v3 v2.heap.size ⟨0, dh, dl, dd, dr, di, 0, de, false⟩) := hd3
      clear hb CC x0 x1 x2 x3 x4 x5 x6 x7 x8 g0 g1 g2 g3 g4 g5 g6 g7 g8 hsv hd3
      obtain ⟨⟨x0, x1, x2, x3, x4, x5, x6, x7, x8⟩, -⟩ := HD3.out.nine
      simp only at x0 x1 x2 x3 x4 x5 x6 x7 x8
      go_wp2_with fail
      go_at_call 11
      refine (CD _).mono ?_
      rintro e v4 ⟨rfl, hb⟩
      have B4 : Hid (Below w.heap.size w v4) := B3.out.trans (hb.mono B3.out.size)
      have HK4 : Hid (Blk v4 w.heap.size ⟨n, dh, dl, dd, dr, di, db, de, false⟩) := HK3.out.below hb
      clear hb CD x0 x1 x2 x3 x4 x5 x6 x7 x8
      obtain ⟨⟨x0, x1, x2, x3, x4, x5, x6, x7, x8⟩, -⟩ := HK4.out.nine
      simp only at x0 x1 x2 x3 x4 x5 x6 x7 x8
      go_wp2_with fail
      go_at_call 13
      refine (NN _).mono ?_
      rintro e v5 ⟨rfl, hb⟩
      have B5 : Hid (Below w.heap.size w v5) := B4.out.trans (hb.mono B4.out.size)
      clear hb NN x0 x1 x2 x3 x4 x5 x6 x7 x8
      go_wp2
      go_ret
      exact ⟨rfl, B5.out⟩

set_option maxRecDepth 100000 in
set_option maxHeartbeats 2000000 in
theorem edges_1 (c : Cf) (x n : Int) (e : (IntKind.u64.wrap x).tmod 7 = 1) (w : World) (hE : Env w) : Calls Tryd.prog 7 #[cfv c, .int .i64 x, .int .i64 n] w fun e w' => e = .returned (.bool true) ∧ Below w.heap.size w w' := by
  have LV := lives_any _ (At.env (At.start w c) hE)
  have SM := fun v => small_form c v
  have A_v0 : Hid (At w c (w.alloc (.cells (cfc c) 23))) := At.start w c
  clear hE
  obtain ⟨cw, ch, cl, cd, cr, ci, cb, we, ca⟩ := c
  simp only [cfv, cfc] at *
  by_cases hin : 1 ≤ n ∧ n ≤ 64
  · go_enter Tryd.func7, Tryd.ntmps7
    go_wp2_with fail
    go_at_call 8
    refine LV.mono ?_
    rintro e v1 ⟨rfl, hb⟩
    have A_v1 : Hid (At w _ v1) := A_v0.out.trans hb
    clear hb LV
    go_upto_region 3 with fail
    go_cut [] from 13 to 14 (fun wc => SmP w wc)
    case first =>
      obtain ⟨x0, x1, x2, x3, x4, x5, x6, x7, x8⟩ := A_v1.out.cells
      simp only at x0 x1 x2 x3 x4 x5 x6 x7 x8
      go_wp2_with fail
      go_at_call 19
      refine (SM _).mono ?_
      rintro e v2 ⟨dw, dh, dl, dd, dr, di, db, de, da, rfl, hb, f⟩
      have A_v2 : Hid (At w _ v2) := A_v1.out.trans hb
      have hz2 : w.heap.size < v2.heap.size := by have := A_v2.out.size; omega
      have KB : Hid (Blk v2 w.heap.size _) := Blk.keep (Blk.new w _) A_v2.out (by omega)
      clear x0 x1 x2 x3 x4 x5 x6 x7 x8 hb SM
      obtain ⟨⟨x0, x1, x2, x3, x4, x5, x6, x7, x8⟩, g0, g1, g2, g3, g4, g5, g6, g7, g8⟩ := KB.out.nine
      simp only at x0 x1 x2 x3 x4 x5 x6 x7 x8
      have HF : Hid (Fits ⟨dw, dh, dl, dd, dr, di, db, de, da⟩) := f
      clear f
      go_wp2_with fail
      go_meet
      exact ⟨⟨dw, dh, dl, dd, dr, di, db, de, da⟩, KB.out.all ⟨dw, dh, dl, dd, dr, di, db, de, da⟩, HF.out, below_nine A_v2.out.below (Nat.le_refl _) _ _ _ _ _ _ _ _ _⟩
    case rest =>
    obtain ⟨⟨dw, dh, dl, dd, dr, di, db, de, da⟩, hkb, f, hb⟩ := hcut
    obtain ⟨v2, rfl⟩ : ∃ v2 : World, v2 = wc := ⟨_, rfl⟩
    have KB : Hid (Blk v2 w.heap.size ⟨dw, dh, dl, dd, dr, di, db, de, da⟩) := hkb
    have B1 : Hid (Below w.heap.size w v2) := hb
    have hz2 : w.heap.size < v2.heap.size := hkb.lt
    clear hkb hb SM
    obtain ⟨⟨x0, x1, x2, x3, x4, x5, x6, x7, x8⟩, g0, g1, g2, g3, g4, g5, g6, g7, g8⟩ := KB.out.nine
    simp only at x0 x1 x2 x3 x4 x5 x6 x7 x8
    have K2 : Hid (Blk ((v2.setCell ⟨w.heap.size, 8, none⟩ (.bool false)).setCell ⟨w.heap.size, 1, none⟩ (.int .i64 n)) w.heap.size ⟨dw, n, dl, dd, dr, di, db, de, false⟩) := (KB.out.last false).set 1 (by omega) n
    have B2 : Hid (Below w.heap.size w ((v2.setCell ⟨w.heap.size, 8, none⟩ (.bool false)).setCell ⟨w.heap.size, 1, none⟩ (.int .i64 n))) := (B1.out.setCell (Nat.le_refl _) _).setCell (Nat.le_refl _) _
    have CC := fun v => check_any ⟨dw, n, dl, dd, dr, di, db, de, false⟩ v
    rw [chk_fits (c := ⟨dw, n, dl, dd, dr, di, db, de, false⟩) ⟨f.w1, f.w2, hin.1, hin.2, f.l1, f.l2, fun h => absurd h Bool.false_ne_true, f.d1, f.d2, f.r1, f.r2, f.i1, f.i2, f.b1, f.b2⟩] at CC
    simp only [cfv, cfc] at CC
    obtain ⟨hn1, hn2⟩ := hin
    clear f
    go_wp2_with fail
    go_at_call 11
    refine (CC _).mono ?_
    rintro e v3 ⟨rfl, hb⟩
    have B3 : Hid (Below w.heap.size w v3) := (B2.out.alloc B2.out.size _).trans (hb.mono (B2.out.alloc B2.out.size _).size)
    clear hb CC x0 x1 x2 x3 x4 x5 x6 x7 x8 g0 g1 g2 g3 g4 g5 g6 g7 g8
    go_wp2
    go_ret
    exact ⟨rfl, B3.out⟩
  · rcases (by omega : n < 1 ∨ (64 < n ∧ 1 ≤ n)) with hlo | ⟨hup, hlo⟩
    · go_enter Tryd.func7, Tryd.ntmps7
      go_wp2_with fail
      go_at_call 8
      refine LV.mono ?_
      rintro e v1 ⟨rfl, hb⟩
      have A_v1 : Hid (At w _ v1) := A_v0.out.trans hb
      clear hb LV
      go_upto_region 3 with fail
      go_cut [] from 13 to 14 (fun wc => SmP w wc)
      case first =>
        obtain ⟨x0, x1, x2, x3, x4, x5, x6, x7, x8⟩ := A_v1.out.cells
        simp only at x0 x1 x2 x3 x4 x5 x6 x7 x8
        go_wp2_with fail
        go_at_call 19
        refine (SM _).mono ?_
        rintro e v2 ⟨dw, dh, dl, dd, dr, di, db, de, da, rfl, hb, f⟩
        have A_v2 : Hid (At w _ v2) := A_v1.out.trans hb
        have hz2 : w.heap.size < v2.heap.size := by have := A_v2.out.size; omega
        have KB : Hid (Blk v2 w.heap.size _) := Blk.keep (Blk.new w _) A_v2.out (by omega)
        clear x0 x1 x2 x3 x4 x5 x6 x7 x8 hb SM
        obtain ⟨⟨x0, x1, x2, x3, x4, x5, x6, x7, x8⟩, g0, g1, g2, g3, g4, g5, g6, g7, g8⟩ := KB.out.nine
        simp only at x0 x1 x2 x3 x4 x5 x6 x7 x8
        have HF : Hid (Fits ⟨dw, dh, dl, dd, dr, di, db, de, da⟩) := f
        clear f
        go_wp2_with fail
        go_meet
        exact ⟨⟨dw, dh, dl, dd, dr, di, db, de, da⟩, KB.out.all ⟨dw, dh, dl, dd, dr, di, db, de, da⟩, HF.out, below_nine A_v2.out.below (Nat.le_refl _) _ _ _ _ _ _ _ _ _⟩
      case rest =>
      obtain ⟨⟨dw, dh, dl, dd, dr, di, db, de, da⟩, hkb, f, hb⟩ := hcut
      obtain ⟨v2, rfl⟩ : ∃ v2 : World, v2 = wc := ⟨_, rfl⟩
      have KB : Hid (Blk v2 w.heap.size ⟨dw, dh, dl, dd, dr, di, db, de, da⟩) := hkb
      have B1 : Hid (Below w.heap.size w v2) := hb
      have hz2 : w.heap.size < v2.heap.size := hkb.lt
      clear hkb hb SM
      obtain ⟨⟨x0, x1, x2, x3, x4, x5, x6, x7, x8⟩, g0, g1, g2, g3, g4, g5, g6, g7, g8⟩ := KB.out.nine
      simp only at x0 x1 x2 x3 x4 x5 x6 x7 x8
      have K2 : Hid (Blk ((v2.setCell ⟨w.heap.size, 8, none⟩ (.bool false)).setCell ⟨w.heap.size, 1, none⟩ (.int .i64 n)) w.heap.size ⟨dw, n, dl, dd, dr, di, db, de, false⟩) := (KB.out.last false).set 1 (by omega) n
      have B2 : Hid (Below w.heap.size w ((v2.setCell ⟨w.heap.size, 8, none⟩ (.bool false)).setCell ⟨w.heap.size, 1, none⟩ (.int .i64 n))) := (B1.out.setCell (Nat.le_refl _) _).setCell (Nat.le_refl _) _
      have CC := fun v => check_any ⟨dw, n, dl, dd, dr, di, db, de, false⟩ v
      have hk := (show chk ⟨dw, n, dl, dd, dr, di, db, de, false⟩ = 4 from chk_size (Or.inr (outB_not hin)))
      rw [hk] at CC
      have CD := fun v => check_any ⟨0, n, dl, dd, dr, di, 0, de, false⟩ v
      rw [chk_size (c := ⟨0, n, dl, dd, dr, di, 0, de, false⟩) (Or.inl rfl)] at CD
      have NN := fun v => nodes_any ⟨dw, n, dl, dd, dr, di, db, de, false⟩ v
      rw [nod_none hk (by decide)] at NN
      simp only [cfv, cfc] at CC CD NN
      clear f hk hin
      go_wp2_with fail
      go_at_call 11
      refine (CC _).mono ?_
      rintro e v3 ⟨rfl, hb⟩
      have HK3 : Hid (Blk v3 w.heap.size ⟨dw, n, dl, dd, dr, di, db, de, false⟩) := (K2.out.alloc (.cells (cfc ⟨0, n, dl, dd, dr, di, 0, de, false⟩) 23)).below hb
      have B3 : Hid (Below w.heap.size w v3) := (B2.out.alloc B2.out.size _).trans (hb.mono (B2.out.alloc B2.out.size _).size)
      have hsv : ((v2.setCell ⟨w.heap.size, 8, none⟩ (.bool false)).setCell ⟨w.heap.size, 1, none⟩ (.int .i64 n)).heap.size = v2.heap.size := by simp
      have hd3 := (Blk.new ((v2.setCell ⟨w.heap.size, 8, none⟩ (.bool false)).setCell ⟨w.heap.size, 1, none⟩ (.int .i64 n)) ⟨0, n, dl, dd, dr, di, 0, de, false⟩).below hb
      rw [hsv] at hd3
      have HD3 : Hid (Blk v3 v2.heap.size ⟨0, n, dl, dd, dr, di, 0, de, false⟩) := hd3
      clear hb CC x0 x1 x2 x3 x4 x5 x6 x7 x8 g0 g1 g2 g3 g4 g5 g6 g7 g8 hsv hd3
      obtain ⟨⟨x0, x1, x2, x3, x4, x5, x6, x7, x8⟩, -⟩ := HD3.out.nine
      simp only at x0 x1 x2 x3 x4 x5 x6 x7 x8
      go_wp2_with fail
      go_at_call 11
      refine (CD _).mono ?_
      rintro e v4 ⟨rfl, hb⟩
      have B4 : Hid (Below w.heap.size w v4) := B3.out.trans (hb.mono B3.out.size)
      have HK4 : Hid (Blk v4 w.heap.size ⟨dw, n, dl, dd, dr, di, db, de, false⟩) := HK3.out.below hb
      clear hb CD x0 x1 x2 x3 x4 x5 x6 x7 x8
      obtain ⟨⟨x0, x1, x2, x3, x4, x5, x6, x7, x8⟩, -⟩ := HK4.out.nine
      simp only at x0 x1 x2 x3 x4 x5 x6 x7 x8
      go_wp2_with fail
      go_at_call 13
      refine (NN _).mono ?_
      rintro e v5 ⟨rfl, hb⟩
      have B5 : Hid (Below w.heap.size w v5) := B4.out.trans (hb.mono B4.out.size)
      clear hb NN x0 x1 x2 x3 x4 x5 x6 x7 x8
      go_wp2
      go_ret
      exact ⟨rfl, B5.out⟩
    · go_enter Tryd.func7, Tryd.ntmps7
      go_wp2_with fail
      go_at_call 8
      refine LV.mono ?_
      rintro e v1 ⟨rfl, hb⟩
      have A_v1 : Hid (At w _ v1) := A_v0.out.trans hb
      clear hb LV
      go_upto_region 3 with fail
      go_cut [] from 13 to 14 (fun wc => SmP w wc)
      case first =>
        obtain ⟨x0, x1, x2, x3, x4, x5, x6, x7, x8⟩ := A_v1.out.cells
        simp only at x0 x1 x2 x3 x4 x5 x6 x7 x8
        go_wp2_with fail
        go_at_call 19
        refine (SM _).mono ?_
        rintro e v2 ⟨dw, dh, dl, dd, dr, di, db, de, da, rfl, hb, f⟩
        have A_v2 : Hid (At w _ v2) := A_v1.out.trans hb
        have hz2 : w.heap.size < v2.heap.size := by have := A_v2.out.size; omega
        have KB : Hid (Blk v2 w.heap.size _) := Blk.keep (Blk.new w _) A_v2.out (by omega)
        clear x0 x1 x2 x3 x4 x5 x6 x7 x8 hb SM
        obtain ⟨⟨x0, x1, x2, x3, x4, x5, x6, x7, x8⟩, g0, g1, g2, g3, g4, g5, g6, g7, g8⟩ := KB.out.nine
        simp only at x0 x1 x2 x3 x4 x5 x6 x7 x8
        have HF : Hid (Fits ⟨dw, dh, dl, dd, dr, di, db, de, da⟩) := f
        clear f
        go_wp2_with fail
        go_meet
        exact ⟨⟨dw, dh, dl, dd, dr, di, db, de, da⟩, KB.out.all ⟨dw, dh, dl, dd, dr, di, db, de, da⟩, HF.out, below_nine A_v2.out.below (Nat.le_refl _) _ _ _ _ _ _ _ _ _⟩
      case rest =>
      obtain ⟨⟨dw, dh, dl, dd, dr, di, db, de, da⟩, hkb, f, hb⟩ := hcut
      obtain ⟨v2, rfl⟩ : ∃ v2 : World, v2 = wc := ⟨_, rfl⟩
      have KB : Hid (Blk v2 w.heap.size ⟨dw, dh, dl, dd, dr, di, db, de, da⟩) := hkb
      have B1 : Hid (Below w.heap.size w v2) := hb
      have hz2 : w.heap.size < v2.heap.size := hkb.lt
      clear hkb hb SM
      obtain ⟨⟨x0, x1, x2, x3, x4, x5, x6, x7, x8⟩, g0, g1, g2, g3, g4, g5, g6, g7, g8⟩ := KB.out.nine
      simp only at x0 x1 x2 x3 x4 x5 x6 x7 x8
      have K2 : Hid (Blk ((v2.setCell ⟨w.heap.size, 8, none⟩ (.bool false)).setCell ⟨w.heap.size, 1, none⟩ (.int .i64 n)) w.heap.size ⟨dw, n, dl, dd, dr, di, db, de, false⟩) := (KB.out.last false).set 1 (by omega) n
      have B2 : Hid (Below w.heap.size w ((v2.setCell ⟨w.heap.size, 8, none⟩ (.bool false)).setCell ⟨w.heap.size, 1, none⟩ (.int .i64 n))) := (B1.out.setCell (Nat.le_refl _) _).setCell (Nat.le_refl _) _
      have CC := fun v => check_any ⟨dw, n, dl, dd, dr, di, db, de, false⟩ v
      have hk := (show chk ⟨dw, n, dl, dd, dr, di, db, de, false⟩ = 4 from chk_size (Or.inr (outB_not hin)))
      rw [hk] at CC
      have CD := fun v => check_any ⟨0, n, dl, dd, dr, di, 0, de, false⟩ v
      rw [chk_size (c := ⟨0, n, dl, dd, dr, di, 0, de, false⟩) (Or.inl rfl)] at CD
      have NN := fun v => nodes_any ⟨dw, n, dl, dd, dr, di, db, de, false⟩ v
      rw [nod_none hk (by decide)] at NN
      simp only [cfv, cfc] at CC CD NN
      clear f hk hin
      go_wp2_with fail
      go_at_call 11
      refine (CC _).mono ?_
      rintro e v3 ⟨rfl, hb⟩
      have HK3 : Hid (Blk v3 w.heap.size ⟨dw, n, dl, dd, dr, di, db, de, false⟩) := (K2.out.alloc (.cells (cfc ⟨0, n, dl, dd, dr, di, 0, de, false⟩) 23)).below hb
      have B3 : Hid (Below w.heap.size w v3) := (B2.out.alloc B2.out.size _).trans (hb.mono (B2.out.alloc B2.out.size _).size)
      have hsv : ((v2.setCell ⟨w.heap.size, 8, none⟩ (.bool false)).setCell ⟨w.heap.size, 1, none⟩ (.int .i64 n)).heap.size = v2.heap.size := by simp
      have hd3 := (Blk.new ((v2.setCell ⟨w.heap.size, 8, none⟩ (.bool false)).setCell ⟨w.heap.size, 1, none⟩ (.int .i64 n)) ⟨0, n, dl, dd, dr, di, 0, de, false⟩).below hb
      rw [hsv] at hd3
      have HD3 : Hid (Blk v3 v2.heap.size ⟨0, n, dl, dd, dr, di, 0, de, false⟩) := hd3
      clear hb CC x0 x1 x2 x3 x4 x5 x6 x7 x8 g0 g1 g2 g3 g4 g5 g6 g7 g8 hsv hd3
      obtain ⟨⟨x0, x1, x2, x3, x4, x5, x6, x7, x8⟩, -⟩ := HD3.out.nine
      simp only at x0 x1 x2 x3 x4 x5 x6 x7 x8
      go_wp2_with fail
      go_at_call 11
      refine (CD _).mono ?_
      rintro e v4 ⟨rfl, hb⟩
      have B4 : Hid (Below w.heap.size w v4) := B3.out.trans (hb.mono B3.out.size)
      have HK4 : Hid (Blk v4 w.heap.size ⟨dw, n, dl, dd, dr, di, db, de, false⟩) := HK3.out.below hb
      clear hb CD x0 x1 x2 x3 x4 x5 x6 x7 x8
      obtain ⟨⟨x0, x1, x2, x3, x4, x5, x6, x7, x8⟩, -⟩ := HK4.out.nine
      simp only at x0 x1 x2 x3 x4 x5 x6 x7 x8
      go_wp2_with fail
      go_at_call 13
      refine (NN _).mono ?_
      rintro e v5 ⟨rfl, hb⟩
      have B5 : Hid (Below w.heap.size w v5) := B4.out.trans (hb.mono B4.out.size)
      clear hb NN x0 x1 x2 x3 x4 x5 x6 x7 x8
      go_wp2
      go_ret
      exact ⟨rfl, B5.out⟩

set_option maxRecDepth 100000 in
set_option maxHeartbeats 2000000 in
theorem edges_2 (c : Cf) (x n : Int) (e : (IntKind.u64.wrap x).tmod 7 = 2) (w : World) (hE : Env w) : Calls Tryd.prog 7 #[cfv c, .int .i64 x, .int .i64 n] w fun e w' => e = .returned (.bool true) ∧ Below w.heap.size w w' := by
  have LV := lives_any _ (At.env (At.start w c) hE)
  have SM := fun v => small_form c v
  have A_v0 : Hid (At w c (w.alloc (.cells (cfc c) 23))) := At.start w c
  clear hE
  obtain ⟨cw, ch, cl, cd, cr, ci, cb, we, ca⟩ := c
  simp only [cfv, cfc] at *
  by_cases hin : 1 ≤ n ∧ n ≤ 8
  · go_enter Tryd.func7, Tryd.ntmps7
    go_wp2_with fail
    go_at_call 8
    refine LV.mono ?_
    rintro e v1 ⟨rfl, hb⟩
    have A_v1 : Hid (At w _ v1) := A_v0.out.trans hb
    clear hb LV
    go_upto_region 3 with fail
    go_cut [] from 13 to 14 (fun wc => SmP w wc)
    case first =>
      obtain ⟨x0, x1, x2, x3, x4, x5, x6, x7, x8⟩ := A_v1.out.cells
      simp only at x0 x1 x2 x3 x4 x5 x6 x7 x8
      go_wp2_with fail
      go_at_call 19
      refine (SM _).mono ?_
      rintro e v2 ⟨dw, dh, dl, dd, dr, di, db, de, da, rfl, hb, f⟩
      have A_v2 : Hid (At w _ v2) := A_v1.out.trans hb
      have hz2 : w.heap.size < v2.heap.size := by have := A_v2.out.size; omega
      have KB : Hid (Blk v2 w.heap.size _) := Blk.keep (Blk.new w _) A_v2.out (by omega)
      clear x0 x1 x2 x3 x4 x5 x6 x7 x8 hb SM
      obtain ⟨⟨x0, x1, x2, x3, x4, x5, x6, x7, x8⟩, g0, g1, g2, g3, g4, g5, g6, g7, g8⟩ := KB.out.nine
      simp only at x0 x1 x2 x3 x4 x5 x6 x7 x8
      have HF : Hid (Fits ⟨dw, dh, dl, dd, dr, di, db, de, da⟩) := f
      clear f
      go_wp2_with fail
      go_meet
      exact ⟨⟨dw, dh, dl, dd, dr, di, db, de, da⟩, KB.out.all ⟨dw, dh, dl, dd, dr, di, db, de, da⟩, HF.out, below_nine A_v2.out.below (Nat.le_refl _) _ _ _ _ _ _ _ _ _⟩
    case rest =>
    obtain ⟨⟨dw, dh, dl, dd, dr, di, db, de, da⟩, hkb, f, hb⟩ := hcut
    obtain ⟨v2, rfl⟩ : ∃ v2 : World, v2 = wc := ⟨_, rfl⟩
    have KB : Hid (Blk v2 w.heap.size ⟨dw, dh, dl, dd, dr, di, db, de, da⟩) := hkb
    have B1 : Hid (Below w.heap.size w v2) := hb
    have hz2 : w.heap.size < v2.heap.size := hkb.lt
    clear hkb hb SM
    obtain ⟨⟨x0, x1, x2, x3, x4, x5, x6, x7, x8⟩, g0, g1, g2, g3, g4, g5, g6, g7, g8⟩ := KB.out.nine
    simp only at x0 x1 x2 x3 x4 x5 x6 x7 x8
    have K2 : Hid (Blk ((v2.setCell ⟨w.heap.size, 8, none⟩ (.bool false)).setCell ⟨w.heap.size, 2, none⟩ (.int .i64 n)) w.heap.size ⟨dw, dh, n, dd, dr, di, db, de, false⟩) := (KB.out.last false).set 2 (by omega) n
    have B2 : Hid (Below w.heap.size w ((v2.setCell ⟨w.heap.size, 8, none⟩ (.bool false)).setCell ⟨w.heap.size, 2, none⟩ (.int .i64 n))) := (B1.out.setCell (Nat.le_refl _) _).setCell (Nat.le_refl _) _
    have CC := fun v => check_any ⟨dw, dh, n, dd, dr, di, db, de, false⟩ v
    rw [chk_fits (c := ⟨dw, dh, n, dd, dr, di, db, de, false⟩) ⟨f.w1, f.w2, f.h1, f.h2, hin.1, hin.2, fun h => absurd h Bool.false_ne_true, f.d1, f.d2, f.r1, f.r2, f.i1, f.i2, f.b1, f.b2⟩] at CC
    simp only [cfv, cfc] at CC
    obtain ⟨hn1, hn2⟩ := hin
    clear f
    go_wp2_with fail
    go_at_call 11
    refine (CC _).mono ?_
    rintro e v3 ⟨rfl, hb⟩
    have B3 : Hid (Below w.heap.size w v3) := (B2.out.alloc B2.out.size _).trans (hb.mono (B2.out.alloc B2.out.size _).size)
    clear hb CC x0 x1 x2 x3 x4 x5 x6 x7 x8 g0 g1 g2 g3 g4 g5 g6 g7 g8
    go_wp2
    go_ret
    exact ⟨rfl, B3.out⟩
  · rcases (by omega : n < 1 ∨ (8 < n ∧ 1 ≤ n)) with hlo | ⟨hup, hlo⟩
    · go_enter Tryd.func7, Tryd.ntmps7
      go_wp2_with fail
      go_at_call 8
      refine LV.mono ?_
      rintro e v1 ⟨rfl, hb⟩
      have A_v1 : Hid (At w _ v1) := A_v0.out.trans hb
      clear hb LV
      go_upto_region 3 with fail
      go_cut [] from 13 to 14 (fun wc => SmP w wc)
      case first =>
        obtain ⟨x0, x1, x2, x3, x4, x5, x6, x7, x8⟩ := A_v1.out.cells
        simp only at x0 x1 x2 x3 x4 x5 x6 x7 x8
        go_wp2_with fail
        go_at_call 19
        refine (SM _).mono ?_
        rintro e v2 ⟨dw, dh, dl, dd, dr, di, db, de, da, rfl, hb, f⟩
        have A_v2 : Hid (At w _ v2) := A_v1.out.trans hb
        have hz2 : w.heap.size < v2.heap.size := by have := A_v2.out.size; omega
        have KB : Hid (Blk v2 w.heap.size _) := Blk.keep (Blk.new w _) A_v2.out (by omega)
        clear x0 x1 x2 x3 x4 x5 x6 x7 x8 hb SM
        obtain ⟨⟨x0, x1, x2, x3, x4, x5, x6, x7, x8⟩, g0, g1, g2, g3, g4, g5, g6, g7, g8⟩ := KB.out.nine
        simp only at x0 x1 x2 x3 x4 x5 x6 x7 x8
        have HF : Hid (Fits ⟨dw, dh, dl, dd, dr, di, db, de, da⟩) := f
        clear f
        go_wp2_with fail
        go_meet
        exact ⟨⟨dw, dh, dl, dd, dr, di, db, de, da⟩, KB.out.all ⟨dw, dh, dl, dd, dr, di, db, de, da⟩, HF.out, below_nine A_v2.out.below (Nat.le_refl _) _ _ _ _ _ _ _ _ _⟩
      case rest =>
      obtain ⟨⟨dw, dh, dl, dd, dr, di, db, de, da⟩, hkb, f, hb⟩ := hcut
      obtain ⟨v2, rfl⟩ : ∃ v2 : World, v2 = wc := ⟨_, rfl⟩
      have KB : Hid (Blk v2 w.heap.size ⟨dw, dh, dl, dd, dr, di, db, de, da⟩) := hkb
      have B1 : Hid (Below w.heap.size w v2) := hb
      have hz2 : w.heap.size < v2.heap.size := hkb.lt
      clear hkb hb SM
      obtain ⟨⟨x0, x1, x2, x3, x4, x5, x6, x7, x8⟩, g0, g1, g2, g3, g4, g5, g6, g7, g8⟩ := KB.out.nine
      simp only at x0 x1 x2 x3 x4 x5 x6 x7 x8
      have K2 : Hid (Blk ((v2.setCell ⟨w.heap.size, 8, none⟩ (.bool false)).setCell ⟨w.heap.size, 2, none⟩ (.int .i64 n)) w.heap.size ⟨dw, dh, n, dd, dr, di, db, de, false⟩) := (KB.out.last false).set 2 (by omega) n
      have B2 : Hid (Below w.heap.size w ((v2.setCell ⟨w.heap.size, 8, none⟩ (.bool false)).setCell ⟨w.heap.size, 2, none⟩ (.int .i64 n))) := (B1.out.setCell (Nat.le_refl _) _).setCell (Nat.le_refl _) _
      have CC := fun v => check_any ⟨dw, dh, n, dd, dr, di, db, de, false⟩ v
      have hk := (show chk ⟨dw, dh, n, dd, dr, di, db, de, false⟩ = 10 from chk_conf (by unfold t1; rw [outB_in f.w1 f.w2, outB_in f.h1 f.h2]; rfl) (Or.inl (by unfold t2; simp only [Bool.false_eq_true, if_false]; exact outB_not hin)))
      rw [hk] at CC
      have CD := fun v => check_any ⟨0, dh, n, dd, dr, di, 0, de, false⟩ v
      rw [chk_size (c := ⟨0, dh, n, dd, dr, di, 0, de, false⟩) (Or.inl rfl)] at CD
      have NN := fun v => nodes_any ⟨dw, dh, n, dd, dr, di, db, de, false⟩ v
      rw [nod_none hk (by decide)] at NN
      simp only [cfv, cfc] at CC CD NN
      clear f hk hin
      go_wp2_with fail
      go_at_call 11
      refine (CC _).mono ?_
      rintro e v3 ⟨rfl, hb⟩
      have HK3 : Hid (Blk v3 w.heap.size ⟨dw, dh, n, dd, dr, di, db, de, false⟩) := (K2.out.alloc (.cells (cfc ⟨0, dh, n, dd, dr, di, 0, de, false⟩) 23)).below hb
      have B3 : Hid (Below w.heap.size w v3) := (B2.out.alloc B2.out.size _).trans (hb.mono (B2.out.alloc B2.out.size _).size)
      have hsv : ((v2.setCell ⟨w.heap.size, 8, none⟩ (.bool false)).setCell ⟨w.heap.size, 2, none⟩ (.int .i64 n)).heap.size = v2.heap.size := by simp
      have hd3 := (Blk.new ((v2.setCell ⟨w.heap.size, 8, none⟩ (.bool false)).setCell ⟨w.heap.size, 2, none⟩ (.int .i64 n)) ⟨0, dh, n, dd, dr, di, 0, de, false⟩).below hb
      rw [hsv] at hd3
      have HD3 : Hid (Blk v3 v2.heap.size ⟨0, dh, n, dd, dr, di, 0, de, false⟩) := hd3
      clear hb CC x0 x1 x2 x3 x4 x5 x6 x7 x8 g0 g1 g2 g3 g4 g5 g6 g7 g8 hsv hd3
      obtain ⟨⟨x0, x1, x2, x3, x4, x5, x6, x7, x8⟩, -⟩ := HD3.out.nine
      simp only at x0 x1 x2 x3 x4 x5 x6 x7 x8
      go_wp2_with fail
      go_at_call 11
      refine (CD _).mono ?_
      rintro e v4 ⟨rfl, hb⟩
      have B4 : Hid (Below w.heap.size w v4) := B3.out.trans (hb.mono B3.out.size)
      have HK4 : Hid (Blk v4 w.heap.size ⟨dw, dh, n, dd, dr, di, db, de, false⟩) := HK3.out.below hb
      clear hb CD x0 x1 x2 x3 x4 x5 x6 x7 x8
      obtain ⟨⟨x0, x1, x2, x3, x4, x5, x6, x7, x8⟩, -⟩ := HK4.out.nine
      simp only at x0 x1 x2 x3 x4 x5 x6 x7 x8
      go_wp2_with fail
      go_at_call 13
      refine (NN _).mono ?_
      rintro e v5 ⟨rfl, hb⟩
      have B5 : Hid (Below w.heap.size w v5) := B4.out.trans (hb.mono B4.out.size)
      clear hb NN x0 x1 x2 x3 x4 x5 x6 x7 x8
      go_wp2
      go_ret
      exact ⟨rfl, B5.out⟩
    · go_enter Tryd.func7, Tryd.ntmps7
      go_wp2_with fail
      go_at_call 8
      refine LV.mono ?_
      rintro e v1 ⟨rfl, hb⟩
      have A_v1 : Hid (At w _ v1) := A_v0.out.trans hb
      clear hb LV
      go_upto_region 3 with fail
      go_cut [] from 13 to 14 (fun wc => SmP w wc)
      case first =>
        obtain ⟨x0, x1, x2, x3, x4, x5, x6, x7, x8⟩ := A_v1.out.cells
        simp only at x0 x1 x2 x3 x4 x5 x6 x7 x8
        go_wp2_with fail
        go_at_call 19
        refine (SM _).mono ?_
        rintro e v2 ⟨dw, dh, dl, dd, dr, di, db, de, da, rfl, hb, f⟩
        have A_v2 : Hid (At w _ v2) := A_v1.out.trans hb
        have hz2 : w.heap.size < v2.heap.size := by have := A_v2.out.size; omega
        have KB : Hid (Blk v2 w.heap.size _) := Blk.keep (Blk.new w _) A_v2.out (by omega)
        clear x0 x1 x2 x3 x4 x5 x6 x7 x8 hb SM
        obtain ⟨⟨x0, x1, x2, x3, x4, x5, x6, x7, x8⟩, g0, g1, g2, g3, g4, g5, g6, g7, g8⟩ := KB.out.nine
        simp only at x0 x1 x2 x3 x4 x5 x6 x7 x8
        have HF : Hid (Fits ⟨dw, dh, dl, dd, dr, di, db, de, da⟩) := f
        clear f
        go_wp2_with fail
        go_meet
        exact ⟨⟨dw, dh, dl, dd, dr, di, db, de, da⟩, KB.out.all ⟨dw, dh, dl, dd, dr, di, db, de, da⟩, HF.out, below_nine A_v2.out.below (Nat.le_refl _) _ _ _ _ _ _ _ _ _⟩
      case rest =>
      obtain ⟨⟨dw, dh, dl, dd, dr, di, db, de, da⟩, hkb, f, hb⟩ := hcut
      obtain ⟨v2, rfl⟩ : ∃ v2 : World, v2 = wc := ⟨_, rfl⟩
      have KB : Hid (Blk v2 w.heap.size ⟨dw, dh, dl, dd, dr, di, db, de, da⟩) := hkb
      have B1 : Hid (Below w.heap.size w v2) := hb
      have hz2 : w.heap.size < v2.heap.size := hkb.lt
      clear hkb hb SM
      obtain ⟨⟨x0, x1, x2, x3, x4, x5, x6, x7, x8⟩, g0, g1, g2, g3, g4, g5, g6, g7, g8⟩ := KB.out.nine
      simp only at x0 x1 x2 x3 x4 x5 x6 x7 x8
      have K2 : Hid (Blk ((v2.setCell ⟨w.heap.size, 8, none⟩ (.bool false)).setCell ⟨w.heap.size, 2, none⟩ (.int .i64 n)) w.heap.size ⟨dw, dh, n, dd, dr, di, db, de, false⟩) := (KB.out.last false).set 2 (by omega) n
      have B2 : Hid (Below w.heap.size w ((v2.setCell ⟨w.heap.size, 8, none⟩ (.bool false)).setCell ⟨w.heap.size, 2, none⟩ (.int .i64 n))) := (B1.out.setCell (Nat.le_refl _) _).setCell (Nat.le_refl _) _
      have CC := fun v => check_any ⟨dw, dh, n, dd, dr, di, db, de, false⟩ v
      have hk := (show chk ⟨dw, dh, n, dd, dr, di, db, de, false⟩ = 10 from chk_conf (by unfold t1; rw [outB_in f.w1 f.w2, outB_in f.h1 f.h2]; rfl) (Or.inl (by unfold t2; simp only [Bool.false_eq_true, if_false]; exact outB_not hin)))
      rw [hk] at CC
      have CD := fun v => check_any ⟨0, dh, n, dd, dr, di, 0, de, false⟩ v
      rw [chk_size (c := ⟨0, dh, n, dd, dr, di, 0, de, false⟩) (Or.inl rfl)] at CD
      have NN := fun v => nodes_any ⟨dw, dh, n, dd, dr, di, db, de, false⟩ v
      rw [nod_none hk (by decide)] at NN
      simp only [cfv, cfc] at CC CD NN
      clear f hk hin
      go_wp2_with fail
      go_at_call 11
      refine (CC _).mono ?_
      rintro e v3 ⟨rfl, hb⟩
      have HK3 : Hid (Blk v3 w.heap.size ⟨dw, dh, n, dd, dr, di, db, de, false⟩) := (K2.out.alloc (.cells (cfc ⟨0, dh, n, dd, dr, di, 0, de, false⟩) 23)).below hb
      have B3 : Hid (Below w.heap.size w v3) := (B2.out.alloc B2.out.size _).trans (hb.mono (B2.out.alloc B2.out.size _).size)
      have hsv : ((v2.setCell ⟨w.heap.size, 8, none⟩ (.bool false)).setCell ⟨w.heap.size, 2, none⟩ (.int .i64 n)).heap.size = v2.heap.size := by simp
      have hd3 := (Blk.new ((v2.setCell ⟨w.heap.size, 8, none⟩ (.bool false)).setCell ⟨w.heap.size, 2, none⟩ (.int .i64 n)) ⟨0, dh, n, dd, dr, di, 0, de, false⟩).below hb
      rw [hsv] at hd3
      have HD3 : Hid (Blk v3 v2.heap.size ⟨0, dh, n, dd, dr, di, 0, de, false⟩) := hd3
      clear hb CC x0 x1 x2 x3 x4 x5 x6 x7 x8 g0 g1 g2 g3 g4 g5 g6 g7 g8 hsv hd3
      obtain ⟨⟨x0, x1, x2, x3, x4, x5, x6, x7, x8⟩, -⟩ := HD3.out.nine
      simp only at x0 x1 x2 x3 x4 x5 x6 x7 x8
      go_wp2_with fail
      go_at_call 11
      refine (CD _).mono ?_
      rintro e v4 ⟨rfl, hb⟩
      have B4 : Hid (Below w.heap.size w v4) := B3.out.trans (hb.mono B3.out.size)
      have HK4 : Hid (Blk v4 w.heap.size ⟨dw, dh, n, dd, dr, di, db, de, false⟩) := HK3.out.below hb
      clear hb CD x0 x1 x2 x3 x4 x5 x6 x7 x8
      obtain ⟨⟨x0, x1, x2, x3, x4, x5, x6, x7, x8⟩, -⟩ := HK4.out.nine
      simp only at x0 x1 x2 x3 x4 x5 x6 x7 x8
      go_wp2_with fail
      go_at_call 13
      refine (NN _).mono ?_
      rintro e v5 ⟨rfl, hb⟩
      have B5 : Hid (Below w.heap.size w v5) := B4.out.trans (hb.mono B4.out.size)
      clear hb NN x0 x1 x2 x3 x4 x5 x6 x7 x8
      go_wp2
      go_ret
      exact ⟨rfl, B5.out⟩

set_option maxRecDepth 100000 in
set_option maxHeartbeats 2000000 in
theorem edges_3 (c : Cf) (x n : Int) (e : (IntKind.u64.wrap x).tmod 7 = 3) (w : World) (hE : Env w) : Calls Tryd.prog 7 #[cfv c, .int .i64 x, .int .i64 n] w fun e w' => e = .returned (.bool true) ∧ Below w.heap.size w w' := by
  have LV := lives_any _ (At.env (At.start w c) hE)
  have SM := fun v => small_form c v
  have A_v0 : Hid (At w c (w.alloc (.cells (cfc c) 23))) := At.start w c
  clear hE
  obtain ⟨cw, ch, cl, cd, cr, ci, cb, we, ca⟩ := c
  simp only [cfv, cfc] at *
  by_cases hin : 1 ≤ n ∧ n ≤ 64
  · go_enter Tryd.func7, Tryd.ntmps7
    go_wp2_with fail
    go_at_call 8
    refine LV.mono ?_
    rintro e v1 ⟨rfl, hb⟩
    have A_v1 : Hid (At w _ v1) := A_v0.out.trans hb
    clear hb LV
    go_upto_region 3 with fail
    go_cut [] from 13 to 14 (fun wc => SmP w wc)
    case first =>
      obtain ⟨x0, x1, x2, x3, x4, x5, x6, x7, x8⟩ := A_v1.out.cells
      simp only at x0 x1 x2 x3 x4 x5 x6 x7 x8
      go_wp2_with fail
      go_at_call 19
      refine (SM _).mono ?_
      rintro e v2 ⟨dw, dh, dl, dd, dr, di, db, de, da, rfl, hb, f⟩
      have A_v2 : Hid (At w _ v2) := A_v1.out.trans hb
      have hz2 : w.heap.size < v2.heap.size := by have := A_v2.out.size; omega
      have KB : Hid (Blk v2 w.heap.size _) := Blk.keep (Blk.new w _) A_v2.out (by omega)
      clear x0 x1 x2 x3 x4 x5 x6 x7 x8 hb SM
      obtain ⟨⟨x0, x1, x2, x3, x4, x5, x6, x7, x8⟩, g0, g1, g2, g3, g4, g5, g6, g7, g8⟩ := KB.out.nine
      simp only at x0 x1 x2 x3 x4 x5 x6 x7 x8
      have HF : Hid (Fits ⟨dw, dh, dl, dd, dr, di, db, de, da⟩) := f
      clear f
      go_wp2_with fail
      go_meet
      exact ⟨⟨dw, dh, dl, dd, dr, di, db, de, da⟩, KB.out.all ⟨dw, dh, dl, dd, dr, di, db, de, da⟩, HF.out, below_nine A_v2.out.below (Nat.le_refl _) _ _ _ _ _ _ _ _ _⟩
    case rest =>
    obtain ⟨⟨dw, dh, dl, dd, dr, di, db, de, da⟩, hkb, f, hb⟩ := hcut
    obtain ⟨v2, rfl⟩ : ∃ v2 : World, v2 = wc := ⟨_, rfl⟩
    have KB : Hid (Blk v2 w.heap.size ⟨dw, dh, dl, dd, dr, di, db, de, da⟩) := hkb
    have B1 : Hid (Below w.heap.size w v2) := hb
    have hz2 : w.heap.size < v2.heap.size := hkb.lt
    clear hkb hb SM
    obtain ⟨⟨x0, x1, x2, x3, x4, x5, x6, x7, x8⟩, g0, g1, g2, g3, g4, g5, g6, g7, g8⟩ := KB.out.nine
    simp only at x0 x1 x2 x3 x4 x5 x6 x7 x8
    have K2 : Hid (Blk ((v2.setCell ⟨w.heap.size, 8, none⟩ (.bool false)).setCell ⟨w.heap.size, 3, none⟩ (.int .i64 n)) w.heap.size ⟨dw, dh, dl, n, dr, di, db, de, false⟩) := (KB.out.last false).set 3 (by omega) n
    have B2 : Hid (Below w.heap.size w ((v2.setCell ⟨w.heap.size, 8, none⟩ (.bool false)).setCell ⟨w.heap.size, 3, none⟩ (.int .i64 n))) := (B1.out.setCell (Nat.le_refl _) _).setCell (Nat.le_refl _) _
    have CC := fun v => check_any ⟨dw, dh, dl, n, dr, di, db, de, false⟩ v
    rw [chk_fits (c := ⟨dw, dh, dl, n, dr, di, db, de, false⟩) ⟨f.w1, f.w2, f.h1, f.h2, f.l1, f.l2, fun h => absurd h Bool.false_ne_true, hin.1, hin.2, f.r1, f.r2, f.i1, f.i2, f.b1, f.b2⟩] at CC
    simp only [cfv, cfc] at CC
    obtain ⟨hn1, hn2⟩ := hin
    clear f
    go_wp2_with fail
    go_at_call 11
    refine (CC _).mono ?_
    rintro e v3 ⟨rfl, hb⟩
    have B3 : Hid (Below w.heap.size w v3) := (B2.out.alloc B2.out.size _).trans (hb.mono (B2.out.alloc B2.out.size _).size)
    clear hb CC x0 x1 x2 x3 x4 x5 x6 x7 x8 g0 g1 g2 g3 g4 g5 g6 g7 g8
    go_wp2
    go_ret
    exact ⟨rfl, B3.out⟩
  · rcases (by omega : n < 1 ∨ (64 < n ∧ 1 ≤ n)) with hlo | ⟨hup, hlo⟩
    · go_enter Tryd.func7, Tryd.ntmps7
      go_wp2_with fail
      go_at_call 8
      refine LV.mono ?_
      rintro e v1 ⟨rfl, hb⟩
      have A_v1 : Hid (At w _ v1) := A_v0.out.trans hb
      clear hb LV
      go_upto_region 3 with fail
      go_cut [] from 13 to 14 (fun wc => SmP w wc)
      case first =>
        obtain ⟨x0, x1, x2, x3, x4, x5, x6, x7, x8⟩ := A_v1.out.cells
        simp only at x0 x1 x2 x3 x4 x5 x6 x7 x8
        go_wp2_with fail
        go_at_call 19
        refine (SM _).mono ?_
        rintro e v2 ⟨dw, dh, dl, dd, dr, di, db, de, da, rfl, hb, f⟩
        have A_v2 : Hid (At w _ v2) := A_v1.out.trans hb
        have hz2 : w.heap.size < v2.heap.size := by have := A_v2.out.size; omega
        have KB : Hid (Blk v2 w.heap.size _) := Blk.keep (Blk.new w _) A_v2.out (by omega)
        clear x0 x1 x2 x3 x4 x5 x6 x7 x8 hb SM
        obtain ⟨⟨x0, x1, x2, x3, x4, x5, x6, x7, x8⟩, g0, g1, g2, g3, g4, g5, g6, g7, g8⟩ := KB.out.nine
        simp only at x0 x1 x2 x3 x4 x5 x6 x7 x8
        have HF : Hid (Fits ⟨dw, dh, dl, dd, dr, di, db, de, da⟩) := f
        clear f
        go_wp2_with fail
        go_meet
        exact ⟨⟨dw, dh, dl, dd, dr, di, db, de, da⟩, KB.out.all ⟨dw, dh, dl, dd, dr, di, db, de, da⟩, HF.out, below_nine A_v2.out.below (Nat.le_refl _) _ _ _ _ _ _ _ _ _⟩
      case rest =>
      obtain ⟨⟨dw, dh, dl, dd, dr, di, db, de, da⟩, hkb, f, hb⟩ := hcut
      obtain ⟨v2, rfl⟩ : ∃ v2 : World, v2 = wc := ⟨_, rfl⟩
      have KB : Hid (Blk v2 w.heap.size ⟨dw, dh, dl, dd, dr, di, db, de, da⟩) := hkb
      have B1 : Hid (Below w.heap.size w v2) := hb
      have hz2 : w.heap.size < v2.heap.size := hkb.lt
      clear hkb hb SM
      obtain ⟨⟨x0, x1, x2, x3, x4, x5, x6, x7, x8⟩, g0, g1, g2, g3, g4, g5, g6, g7, g8⟩ := KB.out.nine
      simp only at x0 x1 x2 x3 x4 x5 x6 x7 x8
      have K2 : Hid (Blk ((v2.setCell ⟨w.heap.size, 8, none⟩ (.bool false)).setCell ⟨w.heap.size, 3, none⟩ (.int .i64 n)) w.heap.size ⟨dw, dh, dl, n, dr, di, db, de, false⟩) := (KB.out.last false).set 3 (by omega) n
      have B2 : Hid (Below w.heap.size w ((v2.setCell ⟨w.heap.size, 8, none⟩ (.bool false)).setCell ⟨w.heap.size, 3, none⟩ (.int .i64 n))) := (B1.out.setCell (Nat.le_refl _) _).setCell (Nat.le_refl _) _
      have CC := fun v => check_any ⟨dw, dh, dl, n, dr, di, db, de, false⟩ v
      have hk := (show chk ⟨dw, dh, dl, n, dr, di, db, de, false⟩ = 10 from chk_conf (by unfold t1; rw [outB_in f.w1 f.w2, outB_in f.h1 f.h2]; rfl) (Or.inr (Or.inl (by unfold t3; rw [outB_not hin]; rfl))))
      rw [hk] at CC
      have CD := fun v => check_any ⟨0, dh, dl, n, dr, di, 0, de, false⟩ v
      rw [chk_size (c := ⟨0, dh, dl, n, dr, di, 0, de, false⟩) (Or.inl rfl)] at CD
      have NN := fun v => nodes_any ⟨dw, dh, dl, n, dr, di, db, de, false⟩ v
      rw [nod_none hk (by decide)] at NN
      simp only [cfv, cfc] at CC CD NN
      clear f hk hin
      go_wp2_with fail
      go_at_call 11
      refine (CC _).mono ?_
      rintro e v3 ⟨rfl, hb⟩
      have HK3 : Hid (Blk v3 w.heap.size ⟨dw, dh, dl, n, dr, di, db, de, false⟩) := (K2.out.alloc (.cells (cfc ⟨0, dh, dl, n, dr, di, 0, de, false⟩) 23)).below hb
      have B3 : Hid (Below w.heap.size w v3) := (B2.out.alloc B2.out.size _).trans (hb.mono (B2.out.alloc B2.out.size _).size)
      have hsv : ((v2.setCell ⟨w.heap.size, 8, none⟩ (.bool false)).setCell ⟨w.heap.size, 3, none⟩ (.int .i64 n)).heap.size = v2.heap.size := by simp
      have hd3 := (Blk.new ((v2.setCell ⟨w.heap.size, 8, none⟩ (.bool false)).setCell ⟨w.heap.size, 3, none⟩ (.int .i64 n)) ⟨0, dh, dl, n, dr, di, 0, de, false⟩).below hb
      rw [hsv] at hd3
      have HD3 : Hid (Blk v3 v2.heap.size ⟨0, dh, dl, n, dr, di, 0, de, false⟩) := hd3
      clear hb CC x0 x1 x2 x3 x4 x5 x6 x7 x8 g0 g1 g2 g3 g4 g5 g6 g7 g8 hsv hd3
      obtain ⟨⟨x0, x1, x2, x3, x4, x5, x6, x7, x8⟩, -⟩ := HD3.out.nine
      simp only at x0 x1 x2 x3 x4 x5 x6 x7 x8
      go_wp2_with fail
      go_at_call 11
      refine (CD _).mono ?_
      rintro e v4 ⟨rfl, hb⟩
      have B4 : Hid (Below w.heap.size w v4) := B3.out.trans (hb.mono B3.out.size)
      have HK4 : Hid (Blk v4 w.heap.size ⟨dw, dh, dl, n, dr, di, db, de, false⟩) := HK3.out.below hb
      clear hb CD x0 x1 x2 x3 x4 x5 x6 x7 x8
      obtain ⟨⟨x0, x1, x2, x3, x4, x5, x6, x7, x8⟩, -⟩ := HK4.out.nine
      simp only at x0 x1 x2 x3 x4 x5 x6 x7 x8
      go_wp2_with fail
      go_at_call 13
      refine (NN _).mono ?_
      rintro e v5 ⟨rfl, hb⟩
      have B5 : Hid (Below w.heap.size w v5) := B4.out.trans (hb.mono B4.out.size)
      clear hb NN x0 x1 x2 x3 x4 x5 x6 x7 x8
      go_wp2
      go_ret
      exact ⟨rfl, B5.out⟩
    · go_enter Tryd.func7, Tryd.ntmps7
      go_wp2_with fail
      go_at_call 8
      refine LV.mono ?_
      rintro e v1 ⟨rfl, hb⟩
      have A_v1 : Hid (At w _ v1) := A_v0.out.trans hb
      clear hb LV
      go_upto_region 3 with fail
      go_cut [] from 13 to 14 (fun wc => SmP w wc)
      case first =>
        obtain ⟨x0, x1, x2, x3, x4, x5, x6, x7, x8⟩ := A_v1.out.cells
        simp only at x0 x1 x2 x3 x4 x5 x6 x7 x8
        go_wp2_with fail
        go_at_call 19
        refine (SM _).mono ?_
        rintro e v2 ⟨dw, dh, dl, dd, dr, di, db, de, da, rfl, hb, f⟩
        have A_v2 : Hid (At w _ v2) := A_v1.out.trans hb
        have hz2 : w.heap.size < v2.heap.size := by have := A_v2.out.size; omega
        have KB : Hid (Blk v2 w.heap.size _) := Blk.keep (Blk.new w _) A_v2.out (by omega)
        clear x0 x1 x2 x3 x4 x5 x6 x7 x8 hb SM
        obtain ⟨⟨x0, x1, x2, x3, x4, x5, x6, x7, x8⟩, g0, g1, g2, g3, g4, g5, g6, g7, g8⟩ := KB.out.nine
        simp only at x0 x1 x2 x3 x4 x5 x6 x7 x8
        have HF : Hid (Fits ⟨dw, dh, dl, dd, dr, di, db, de, da⟩) := f
        clear f
        go_wp2_with fail
        go_meet
        exact ⟨⟨dw, dh, dl, dd, dr, di, db, de, da⟩, KB.out.all ⟨dw, dh, dl, dd, dr, di, db, de, da⟩, HF.out, below_nine A_v2.out.below (Nat.le_refl _) _ _ _ _ _ _ _ _ _⟩
      case rest =>
      obtain ⟨⟨dw, dh, dl, dd, dr, di, db, de, da⟩, hkb, f, hb⟩ := hcut
      obtain ⟨v2, rfl⟩ : ∃ v2 : World, v2 = wc := ⟨_, rfl⟩
      have KB : Hid (Blk v2 w.heap.size ⟨dw, dh, dl, dd, dr, di, db, de, da⟩) := hkb
      have B1 : Hid (Below w.heap.size w v2) := hb
      have hz2 : w.heap.size < v2.heap.size := hkb.lt
      clear hkb hb SM
      obtain ⟨⟨x0, x1, x2, x3, x4, x5, x6, x7, x8⟩, g0, g1, g2, g3, g4, g5, g6, g7, g8⟩ := KB.out.nine
      simp only at x0 x1 x2 x3 x4 x5 x6 x7 x8
      have K2 : Hid (Blk ((v2.setCell ⟨w.heap.size, 8, none⟩ (.bool false)).setCell ⟨w.heap.size, 3, none⟩ (.int .i64 n)) w.heap.size ⟨dw, dh, dl, n, dr, di, db, de, false⟩) := (KB.out.last false).set 3 (by omega) n
      have B2 : Hid (Below w.heap.size w ((v2.setCell ⟨w.heap.size, 8, none⟩ (.bool false)).setCell ⟨w.heap.size, 3, none⟩ (.int .i64 n))) := (B1.out.setCell (Nat.le_refl _) _).setCell (Nat.le_refl _) _
      have CC := fun v => check_any ⟨dw, dh, dl, n, dr, di, db, de, false⟩ v
      have hk := (show chk ⟨dw, dh, dl, n, dr, di, db, de, false⟩ = 10 from chk_conf (by unfold t1; rw [outB_in f.w1 f.w2, outB_in f.h1 f.h2]; rfl) (Or.inr (Or.inl (by unfold t3; rw [outB_not hin]; rfl))))
      rw [hk] at CC
      have CD := fun v => check_any ⟨0, dh, dl, n, dr, di, 0, de, false⟩ v
      rw [chk_size (c := ⟨0, dh, dl, n, dr, di, 0, de, false⟩) (Or.inl rfl)] at CD
      have NN := fun v => nodes_any ⟨dw, dh, dl, n, dr, di, db, de, false⟩ v
      rw [nod_none hk (by decide)] at NN
      simp only [cfv, cfc] at CC CD NN
      clear f hk hin
      go_wp2_with fail
      go_at_call 11
      refine (CC _).mono ?_
      rintro e v3 ⟨rfl, hb⟩
      have HK3 : Hid (Blk v3 w.heap.size ⟨dw, dh, dl, n, dr, di, db, de, false⟩) := (K2.out.alloc (.cells (cfc ⟨0, dh, dl, n, dr, di, 0, de, false⟩) 23)).below hb
      have B3 : Hid (Below w.heap.size w v3) := (B2.out.alloc B2.out.size _).trans (hb.mono (B2.out.alloc B2.out.size _).size)
      have hsv : ((v2.setCell ⟨w.heap.size, 8, none⟩ (.bool false)).setCell ⟨w.heap.size, 3, none⟩ (.int .i64 n)).heap.size = v2.heap.size := by simp
      have hd3 := (Blk.new ((v2.setCell ⟨w.heap.size, 8, none⟩ (.bool false)).setCell ⟨w.heap.size, 3, none⟩ (.int .i64 n)) ⟨0, dh, dl, n, dr, di, 0, de, false⟩).below hb
      rw [hsv] at hd3
      have HD3 : Hid (Blk v3 v2.heap.size ⟨0, dh, dl, n, dr, di, 0, de, false⟩) := hd3
      clear hb CC x0 x1 x2 x3 x4 x5 x6 x7 x8 g0 g1 g2 g3 g4 g5 g6 g7 g8 hsv hd3
      obtain ⟨⟨x0, x1, x2, x3, x4, x5, x6, x7, x8⟩, -⟩ := HD3.out.nine
      simp only at x0 x1 x2 x3 x4 x5 x6 x7 x8
      go_wp2_with fail
      go_at_call 11
      refine (CD _).mono ?_
      rintro e v4 ⟨rfl, hb⟩
      have B4 : Hid (Below w.heap.size w v4) := B3.out.trans (hb.mono B3.out.size)
      have HK4 : Hid (Blk v4 w.heap.size ⟨dw, dh, dl, n, dr, di, db, de, false⟩) := HK3.out.below hb
      clear hb CD x0 x1 x2 x3 x4 x5 x6 x7 x8
      obtain ⟨⟨x0, x1, x2, x3, x4, x5, x6, x7, x8⟩, -⟩ := HK4.out.nine
      simp only at x0 x1 x2 x3 x4 x5 x6 x7 x8
      go_wp2_with fail
      go_at_call 13
      refine (NN _).mono ?_
      rintro e v5 ⟨rfl, hb⟩
      have B5 : Hid (Below w.heap.size w v5) := B4.out.trans (hb.mono B4.out.size)
      clear hb NN x0 x1 x2 x3 x4 x5 x6 x7 x8
      go_wp2
      go_ret
      exact ⟨rfl, B5.out⟩

set_option maxRecDepth 100000 in
set_option maxHeartbeats 2000000 in
theorem edges_4 (c : Cf) (x n : Int) (e : (IntKind.u64.wrap x).tmod 7 = 4) (w : World) (hE : Env w) : Calls Tryd.prog 7 #[cfv c, .int .i64 x, .int .i64 n] w fun e w' => e = .returned (.bool true) ∧ Below w.heap.size w w' := by
  have LV := lives_any _ (At.env (At.start w c) hE)
  have SM := fun v => small_form c v
  have A_v0 : Hid (At w c (w.alloc (.cells (cfc c) 23))) := At.start w c
  clear hE
  obtain ⟨cw, ch, cl, cd, cr, ci, cb, we, ca⟩ := c
  simp only [cfv, cfc] at *
  by_cases hin : 1 ≤ n ∧ n ≤ 64
  · go_enter Tryd.func7, Tryd.ntmps7
    go_wp2_with fail
    go_at_call 8
    refine LV.mono ?_
    rintro e v1 ⟨rfl, hb⟩
    have A_v1 : Hid (At w _ v1) := A_v0.out.trans hb
    clear hb LV
    go_upto_region 3 with fail
    go_cut [] from 13 to 14 (fun wc => SmP w wc)
    case first =>
      obtain ⟨x0, x1, x2, x3, x4, x5, x6, x7, x8⟩ := A_v1.out.cells
      simp only at x0 x1 x2 x3 x4 x5 x6 x7 x8
      go_wp2_with fail
      go_at_call 19
      refine (SM _).mono ?_
      rintro e v2 ⟨dw, dh, dl, dd, dr, di, db, de, da, rfl, hb, f⟩
      have A_v2 : Hid (At w _ v2) := A_v1.out.trans hb
      have hz2 : w.heap.size < v2.heap.size := by have := A_v2.out.size; omega
      have KB : Hid (Blk v2 w.heap.size _) := Blk.keep (Blk.new w _) A_v2.out (by omega)
      clear x0 x1 x2 x3 x4 x5 x6 x7 x8 hb SM
      obtain ⟨⟨x0, x1, x2, x3, x4, x5, x6, x7, x8⟩, g0, g1, g2, g3, g4, g5, g6, g7, g8⟩ := KB.out.nine
      simp only at x0 x1 x2 x3 x4 x5 x6 x7 x8
      have HF : Hid (Fits ⟨dw, dh, dl, dd, dr, di, db, de, da⟩) := f
      clear f
      go_wp2_with fail
      go_meet
      exact ⟨⟨dw, dh, dl, dd, dr, di, db, de, da⟩, KB.out.all ⟨dw, dh, dl, dd, dr, di, db, de, da⟩, HF.out, below_nine A_v2.out.below (Nat.le_refl _) _ _ _ _ _ _ _ _ _⟩
    case rest =>
    obtain ⟨⟨dw, dh, dl, dd, dr, di, db, de, da⟩, hkb, f, hb⟩ := hcut
    obtain ⟨v2, rfl⟩ : ∃ v2 : World, v2 = wc := ⟨_, rfl⟩
    have KB : Hid (Blk v2 w.heap.size ⟨dw, dh, dl, dd, dr, di, db, de, da⟩) := hkb
    have B1 : Hid (Below w.heap.size w v2) := hb
    have hz2 : w.heap.size < v2.heap.size := hkb.lt
    clear hkb hb SM
    obtain ⟨⟨x0, x1, x2, x3, x4, x5, x6, x7, x8⟩, g0, g1, g2, g3, g4, g5, g6, g7, g8⟩ := KB.out.nine
    simp only at x0 x1 x2 x3 x4 x5 x6 x7 x8
    have K2 : Hid (Blk ((v2.setCell ⟨w.heap.size, 8, none⟩ (.bool false)).setCell ⟨w.heap.size, 4, none⟩ (.int .i64 n)) w.heap.size ⟨dw, dh, dl, dd, n, di, db, de, false⟩) := (KB.out.last false).set 4 (by omega) n
    have B2 : Hid (Below w.heap.size w ((v2.setCell ⟨w.heap.size, 8, none⟩ (.bool false)).setCell ⟨w.heap.size, 4, none⟩ (.int .i64 n))) := (B1.out.setCell (Nat.le_refl _) _).setCell (Nat.le_refl _) _
    have CC := fun v => check_any ⟨dw, dh, dl, dd, n, di, db, de, false⟩ v
    rw [chk_fits (c := ⟨dw, dh, dl, dd, n, di, db, de, false⟩) ⟨f.w1, f.w2, f.h1, f.h2, f.l1, f.l2, fun h => absurd h Bool.false_ne_true, f.d1, f.d2, hin.1, hin.2, f.i1, f.i2, f.b1, f.b2⟩] at CC
    simp only [cfv, cfc] at CC
    obtain ⟨hn1, hn2⟩ := hin
    clear f
    go_wp2_with fail
    go_at_call 11
    refine (CC _).mono ?_
    rintro e v3 ⟨rfl, hb⟩
    have B3 : Hid (Below w.heap.size w v3) := (B2.out.alloc B2.out.size _).trans (hb.mono (B2.out.alloc B2.out.size _).size)
    clear hb CC x0 x1 x2 x3 x4 x5 x6 x7 x8 g0 g1 g2 g3 g4 g5 g6 g7 g8
    go_wp2
    go_ret
    exact ⟨rfl, B3.out⟩
  · rcases (by omega : n < 1 ∨ (64 < n ∧ 1 ≤ n)) with hlo | ⟨hup, hlo⟩
    · go_enter Tryd.func7, Tryd.ntmps7
      go_wp2_with fail
      go_at_call 8
      refine LV.mono ?_
      rintro e v1 ⟨rfl, hb⟩
      have A_v1 : Hid (At w _ v1) := A_v0.out.trans hb
      clear hb LV
      go_upto_region 3 with fail
      go_cut [] from 13 to 14 (fun wc => SmP w wc)
      case first =>
        obtain ⟨x0, x1, x2, x3, x4, x5, x6, x7, x8⟩ := A_v1.out.cells
        simp only at x0 x1 x2 x3 x4 x5 x6 x7 x8
        go_wp2_with fail
        go_at_call 19
        refine (SM _).mono ?_
        rintro e v2 ⟨dw, dh, dl, dd, dr, di, db, de, da, rfl, hb, f⟩
        have A_v2 : Hid (At w _ v2) := A_v1.out.trans hb
        have hz2 : w.heap.size < v2.heap.size := by have := A_v2.out.size; omega
        have KB : Hid (Blk v2 w.heap.size _) := Blk.keep (Blk.new w _) A_v2.out (by omega)
        clear x0 x1 x2 x3 x4 x5 x6 x7 x8 hb SM
        obtain ⟨⟨x0, x1, x2, x3, x4, x5, x6, x7, x8⟩, g0, g1, g2, g3, g4, g5, g6, g7, g8⟩ := KB.out.nine
        simp only at x0 x1 x2 x3 x4 x5 x6 x7 x8
        have HF : Hid (Fits ⟨dw, dh, dl, dd, dr, di, db, de, da⟩) := f
        clear f
        go_wp2_with fail
        go_meet
        exact ⟨⟨dw, dh, dl, dd, dr, di, db, de, da⟩, KB.out.all ⟨dw, dh, dl, dd, dr, di, db, de, da⟩, HF.out, below_nine A_v2.out.below (Nat.le_refl _) _ _ _ _ _ _ _ _ _⟩
      case rest =>
      obtain ⟨⟨dw, dh, dl, dd, dr, di, db, de, da⟩, hkb, f, hb⟩ := hcut
      obtain ⟨v2, rfl⟩ : ∃ v2 : World, v2 = wc := ⟨_, rfl⟩
      have KB : Hid (Blk v2 w.heap.size ⟨dw, dh, dl, dd, dr, di, db, de, da⟩) := hkb
      have B1 : Hid (Below w.heap.size w v2) := hb
      have hz2 : w.heap.size < v2.heap.size := hkb.lt
      clear hkb hb SM
      obtain ⟨⟨x0, x1, x2, x3, x4, x5, x6, x7, x8⟩, g0, g1, g2, g3, g4, g5, g6, g7, g8⟩ := KB.out.nine
      simp only at x0 x1 x2 x3 x4 x5 x6 x7 x8
      have K2 : Hid (Blk ((v2.setCell ⟨w.heap.size, 8, none⟩ (.bool false)).setCell ⟨w.heap.size, 4, none⟩ (.int .i64 n)) w.heap.size ⟨dw, dh, dl, dd, n, di, db, de, false⟩) := (KB.out.last false).set 4 (by omega) n
      have B2 : Hid (Below w.heap.size w ((v2.setCell ⟨w.heap.size, 8, none⟩ (.bool false)).setCell ⟨w.heap.size, 4, none⟩ (.int .i64 n))) := (B1.out.setCell (Nat.le_refl _) _).setCell (Nat.le_refl _) _
      have CC := fun v => check_any ⟨dw, dh, dl, dd, n, di, db, de, false⟩ v
      have hk := (show chk ⟨dw, dh, dl, dd, n, di, db, de, false⟩ = 10 from chk_conf (by unfold t1; rw [outB_in f.w1 f.w2, outB_in f.h1 f.h2]; rfl) (Or.inr (Or.inl (by unfold t3; rw [outB_not hin]; simp))))
      rw [hk] at CC
      have CD := fun v => check_any ⟨0, dh, dl, dd, n, di, 0, de, false⟩ v
      rw [chk_size (c := ⟨0, dh, dl, dd, n, di, 0, de, false⟩) (Or.inl rfl)] at CD
      have NN := fun v => nodes_any ⟨dw, dh, dl, dd, n, di, db, de, false⟩ v
      rw [nod_none hk (by decide)] at NN
      simp only [cfv, cfc] at CC CD NN
      clear f hk hin
      go_wp2_with fail
      go_at_call 11
      refine (CC _).mono ?_
      rintro e v3 ⟨rfl, hb⟩
      have HK3 : Hid (Blk v3 w.heap.size ⟨dw, dh, dl, dd, n, di, db, de, false⟩) := (K2.out.alloc (.cells (cfc ⟨0, dh, dl, dd, n, di, 0, de, false⟩) 23)).below hb
      have B3 : Hid (Below w.heap.size w v3) := (B2.out.alloc B2.out.size _).trans (hb.mono (B2.out.alloc B2.out.size _).size)
      have hsv : ((v2.setCell ⟨w.heap.size, 8, none⟩ (.bool false)).setCell ⟨w.heap.size, 4, none⟩ (.int .i64 n)).heap.size = v2.heap.size := by simp
      have hd3 := (Blk.new ((v2.setCell ⟨w.heap.size, 8, none⟩ (.bool false)).setCell ⟨w.heap.size, 4, none⟩ (.int .i64 n)) ⟨0, dh, dl, dd, n, di, 0, de, false⟩).below hb
      rw [hsv] at hd3
      have HD3 : Hid (Blk v3 v2.heap.size ⟨0, dh, dl, dd, n, di, 0, de, false⟩) := hd3
      clear hb CC x0 x1 x2 x3 x4 x5 x6 x7 x8 g0 g1 g2 g3 g4 g5 g6 g7 g8 hsv hd3
      obtain ⟨⟨x0, x1, x2, x3, x4, x5, x6, x7, x8⟩, -⟩ := HD3.out.nine
      simp only at x0 x1 x2 x3 x4 x5 x6 x7 x8
      go_wp2_with fail
      go_at_call 11
      refine (CD _).mono ?_
      rintro e v4 ⟨rfl, hb⟩
      have B4 : Hid (Below w.heap.size w v4) := B3.out.trans (hb.mono B3.out.size)
      have HK4 : Hid (Blk v4 w.heap.size ⟨dw, dh, dl, dd, n, di, db, de, false⟩) := HK3.out.below hb
      clear hb CD x0 x1 x2 x3 x4 x5 x6 x7 x8
      obtain ⟨⟨x0, x1, x2, x3, x4, x5, x6, x7, x8⟩, -⟩ := HK4.out.nine
      simp only at x0 x1 x2 x3 x4 x5 x6 x7 x8
      go_wp2_with fail
      go_at_call 13
      refine (NN _).mono ?_
      rintro e v5 ⟨rfl, hb⟩
      have B5 : Hid (Below w.heap.size w v5) := B4.out.trans (hb.mono B4.out.size)
      clear hb NN x0 x1 x2 x3 x4 x5 x6 x7 x8
      go_wp2
      go_ret
      exact ⟨rfl, B5.out⟩
    · go_enter Tryd.func7, Tryd.ntmps7
      go_wp2_with fail
      go_at_call 8
      refine LV.mono ?_
      rintro e v1 ⟨rfl, hb⟩
      have A_v1 : Hid (At w _ v1) := A_v0.out.trans hb
      clear hb LV
      go_upto_region 3 with fail
      go_cut [] from 13 to 14 (fun wc => SmP w wc)
      case first =>
        obtain ⟨x0, x1, x2, x3, x4, x5, x6, x7, x8⟩ := A_v1.out.cells
        simp only at x0 x1 x2 x3 x4 x5 x6 x7 x8
        go_wp2_with fail
        go_at_call 19
        refine (SM _).mono ?_
        rintro e v2 ⟨dw, dh, dl, dd, dr, di, db, de, da, rfl, hb, f⟩
        have A_v2 : Hid (At w _ v2) := A_v1.out.trans hb
        have hz2 : w.heap.size < v2.heap.size := by have := A_v2.out.size; omega
        have KB : Hid (Blk v2 w.heap.size _) := Blk.keep (Blk.new w _) A_v2.out (by omega)
        clear x0 x1 x2 x3 x4 x5 x6 x7 x8 hb SM
        obtain ⟨⟨x0, x1, x2, x3, x4, x5, x6, x7, x8⟩, g0, g1, g2, g3, g4, g5, g6, g7, g8⟩ := KB.out.nine
        simp only at x0 x1 x2 x3 x4 x5 x6 x7 x8
        have HF : Hid (Fits ⟨dw, dh, dl, dd, dr, di, db, de, da⟩) := f
        clear f
        go_wp2_with fail
        go_meet
        exact ⟨⟨dw, dh, dl, dd, dr, di, db, de, da⟩, KB.out.all ⟨dw, dh, dl, dd, dr, di, db, de, da⟩, HF.out, below_nine A_v2.out.below (Nat.le_refl _) _ _ _ _ _ _ _ _ _⟩
      case rest =>
      obtain ⟨⟨dw, dh, dl, dd, dr, di, db, de, da⟩, hkb, f, hb⟩ := hcut
      obtain ⟨v2, rfl⟩ : ∃ v2 : World, v2 = wc := ⟨_, rfl⟩
      have KB : Hid (Blk v2 w.heap.size ⟨dw, dh, dl, dd, dr, di, db, de, da⟩) := hkb
      have B1 : Hid (Below w.heap.size w v2) := hb
      have hz2 : w.heap.size < v2.heap.size := hkb.lt
      clear hkb hb SM
      obtain ⟨⟨x0, x1, x2, x3, x4, x5, x6, x7, x8⟩, g0, g1, g2, g3, g4, g5, g6, g7, g8⟩ := KB.out.nine
      simp only at x0 x1 x2 x3 x4 x5 x6 x7 x8
      have K2 : Hid (Blk ((v2.setCell ⟨w.heap.size, 8, none⟩ (.bool false)).setCell ⟨w.heap.size, 4, none⟩ (.int .i64 n)) w.heap.size ⟨dw, dh, dl, dd, n, di, db, de, false⟩) := (KB.out.last false).set 4 (by omega) n
      have B2 : Hid (Below w.heap.size w ((v2.setCell ⟨w.heap.size, 8, none⟩ (.bool false)).setCell ⟨w.heap.size, 4, none⟩ (.int .i64 n))) := (B1.out.setCell (Nat.le_refl _) _).setCell (Nat.le_refl _) _
      have CC := fun v => check_any ⟨dw, dh, dl, dd, n, di, db, de, false⟩ v
      have hk := (show chk ⟨dw, dh, dl, dd, n, di, db, de, false⟩ = 10 from chk_conf (by unfold t1; rw [outB_in f.w1 f.w2, outB_in f.h1 f.h2]; rfl) (Or.inr (Or.inl (by unfold t3; rw [outB_not hin]; simp))))
      rw [hk] at CC
      have CD := fun v => check_any ⟨0, dh, dl, dd, n, di, 0, de, false⟩ v
      rw [chk_size (c := ⟨0, dh, dl, dd, n, di, 0, de, false⟩) (Or.inl rfl)] at CD
      have NN := fun v => nodes_any ⟨dw, dh, dl, dd, n, di, db, de, false⟩ v
      rw [nod_none hk (by decide)] at NN
      simp only [cfv, cfc] at CC CD NN
      clear f hk hin
      go_wp2_with fail
      go_at_call 11
      refine (CC _).mono ?_
      rintro e v3 ⟨rfl, hb⟩
      have HK3 : Hid (Blk v3 w.heap.size ⟨dw, dh, dl, dd, n, di, db, de, false⟩) := (K2.out.alloc (.cells (cfc ⟨0, dh, dl, dd, n, di, 0, de, false⟩) 23)).below hb
      have B3 : Hid (Below w.heap.size w v3) := (B2.out.alloc B2.out.size _).trans (hb.mono (B2.out.alloc B2.out.size _).size)
      have hsv : ((v2.setCell ⟨w.heap.size, 8, none⟩ (.bool false)).setCell ⟨w.heap.size, 4, none⟩ (.int .i64 n)).heap.size = v2.heap.size := by simp
      have hd3 := (Blk.new ((v2.setCell ⟨w.heap.size, 8, none⟩ (.bool false)).setCell ⟨w.heap.size, 4, none⟩ (.int .i64 n)) ⟨0, dh, dl, dd, n, di, 0, de, false⟩).below hb
      rw [hsv] at hd3
      have HD3 : Hid (Blk v3 v2.heap.size ⟨0, dh, dl, dd, n, di, 0, de, false⟩) := hd3
      clear hb CC x0 x1 x2 x3 x4 x5 x6 x7 x8 g0 g1 g2 g3 g4 g5 g6 g7 g8 hsv hd3
      obtain ⟨⟨x0, x1, x2, x3, x4, x5, x6, x7, x8⟩, -⟩ := HD3.out.nine
      simp only at x0 x1 x2 x3 x4 x5 x6 x7 x8
      go_wp2_with fail
      go_at_call 11
      refine (CD _).mono ?_
      rintro e v4 ⟨rfl, hb⟩
      have B4 : Hid (Below w.heap.size w v4) := B3.out.trans (hb.mono B3.out.size)
      have HK4 : Hid (Blk v4 w.heap.size ⟨dw, dh, dl, dd, n, di, db, de, false⟩) := HK3.out.below hb
      clear hb CD x0 x1 x2 x3 x4 x5 x6 x7 x8
      obtain ⟨⟨x0, x1, x2, x3, x4, x5, x6, x7, x8⟩, -⟩ := HK4.out.nine
      simp only at x0 x1 x2 x3 x4 x5 x6 x7 x8
      go_wp2_with fail
      go_at_call 13
      refine (NN _).mono ?_
      rintro e v5 ⟨rfl, hb⟩
      have B5 : Hid (Below w.heap.size w v5) := B4.out.trans (hb.mono B4.out.size)
      clear hb NN x0 x1 x2 x3 x4 x5 x6 x7 x8
      go_wp2
      go_ret
      exact ⟨rfl, B5.out⟩

set_option maxRecDepth 100000 in
set_option maxHeartbeats 2000000 in
theorem edges_5 (c : Cf) (x n : Int) (e : (IntKind.u64.wrap x).tmod 7 = 5) (w : World) (hE : Env w) : Calls Tryd.prog 7 #[cfv c, .int .i64 x, .int .i64 n] w fun e w' => e = .returned (.bool true) ∧ Below w.heap.size w w' := by
  have LV := lives_any _ (At.env (At.start w c) hE)
  have SM := fun v => small_form c v
  have A_v0 : Hid (At w c (w.alloc (.cells (cfc c) 23))) := At.start w c
  clear hE
  obtain ⟨cw, ch, cl, cd, cr, ci, cb, we, ca⟩ := c
  simp only [cfv, cfc] at *
  by_cases hin : 1 ≤ n ∧ n ≤ 64
  · go_enter Tryd.func7, Tryd.ntmps7
    go_wp2_with fail
    go_at_call 8
    refine LV.mono ?_
    rintro e v1 ⟨rfl, hb⟩
    have A_v1 : Hid (At w _ v1) := A_v0.out.trans hb
    clear hb LV
    go_upto_region 3 with fail
    go_cut [] from 13 to 14 (fun wc => SmP w wc)
    case first =>
      obtain ⟨x0, x1, x2, x3, x4, x5, x6, x7, x8⟩ := A_v1.out.cells
      simp only at x0 x1 x2 x3 x4 x5 x6 x7 x8
      go_wp2_with fail
      go_at_call 19
      refine (SM _).mono ?_
      rintro e v2 ⟨dw, dh, dl, dd, dr, di, db, de, da, rfl, hb, f⟩
      have A_v2 : Hid (At w _ v2) := A_v1.out.trans hb
      have hz2 : w.heap.size < v2.heap.size := by have := A_v2.out.size; omega
      have KB : Hid (Blk v2 w.heap.size _) := Blk.keep (Blk.new w _) A_v2.out (by omega)
      clear x0 x1 x2 x3 x4 x5 x6 x7 x8 hb SM
      obtain ⟨⟨x0, x1, x2, x3, x4, x5, x6, x7, x8⟩, g0, g1, g2, g3, g4, g5, g6, g7, g8⟩ := KB.out.nine
      simp only at x0 x1 x2 x3 x4 x5 x6 x7 x8
      have HF : Hid (Fits ⟨dw, dh, dl, dd, dr, di, db, de, da⟩) := f
      clear f
      go_wp2_with fail
      go_meet
      exact ⟨⟨dw, dh, dl, dd, dr, di, db, de, da⟩, KB.out.all ⟨dw, dh, dl, dd, dr, di, db, de, da⟩, HF.out, below_nine A_v2.out.below (Nat.le_refl _) _ _ _ _ _ _ _ _ _⟩
    case rest =>
    obtain ⟨⟨dw, dh, dl, dd, dr, di, db, de, da⟩, hkb, f, hb⟩ := hcut
    obtain ⟨v2, rfl⟩ : ∃ v2 : World, v2 = wc := ⟨_, rfl⟩
    have KB : Hid (Blk v2 w.heap.size ⟨dw, dh, dl, dd, dr, di, db, de, da⟩) := hkb
    have B1 : Hid (Below w.heap.size w v2) := hb
    have hz2 : w.heap.size < v2.heap.size := hkb.lt
    clear hkb hb SM
    obtain ⟨⟨x0, x1, x2, x3, x4, x5, x6, x7, x8⟩, g0, g1, g2, g3, g4, g5, g6, g7, g8⟩ := KB.out.nine
    simp only at x0 x1 x2 x3 x4 x5 x6 x7 x8
    have K2 : Hid (Blk ((v2.setCell ⟨w.heap.size, 8, none⟩ (.bool false)).setCell ⟨w.heap.size, 5, none⟩ (.int .i64 n)) w.heap.size ⟨dw, dh, dl, dd, dr, n, db, de, false⟩) := (KB.out.last false).set 5 (by omega) n
    have B2 : Hid (Below w.heap.size w ((v2.setCell ⟨w.heap.size, 8, none⟩ (.bool false)).setCell ⟨w.heap.size, 5, none⟩ (.int .i64 n))) := (B1.out.setCell (Nat.le_refl _) _).setCell (Nat.le_refl _) _
    have CC := fun v => check_any ⟨dw, dh, dl, dd, dr, n, db, de, false⟩ v
    rw [chk_fits (c := ⟨dw, dh, dl, dd, dr, n, db, de, false⟩) ⟨f.w1, f.w2, f.h1, f.h2, f.l1, f.l2, fun h => absurd h Bool.false_ne_true, f.d1, f.d2, f.r1, f.r2, hin.1, hin.2, f.b1, f.b2⟩] at CC
    simp only [cfv, cfc] at CC
    obtain ⟨hn1, hn2⟩ := hin
    clear f
    go_wp2_with fail
    go_at_call 11
    refine (CC _).mono ?_
    rintro e v3 ⟨rfl, hb⟩
    have B3 : Hid (Below w.heap.size w v3) := (B2.out.alloc B2.out.size _).trans (hb.mono (B2.out.alloc B2.out.size _).size)
    clear hb CC x0 x1 x2 x3 x4 x5 x6 x7 x8 g0 g1 g2 g3 g4 g5 g6 g7 g8
    go_wp2
    go_ret
    exact ⟨rfl, B3.out⟩
  · rcases (by omega : n < 1 ∨ (64 < n ∧ 1 ≤ n)) with hlo | ⟨hup, hlo⟩
    · go_enter Tryd.func7, Tryd.ntmps7
      go_wp2_with fail
      go_at_call 8
      refine LV.mono ?_
      rintro e v1 ⟨rfl, hb⟩
      have A_v1 : Hid (At w _ v1) := A_v0.out.trans hb
      clear hb LV
      go_upto_region 3 with fail
      go_cut [] from 13 to 14 (fun wc => SmP w wc)
      case first =>
        obtain ⟨x0, x1, x2, x3, x4, x5, x6, x7, x8⟩ := A_v1.out.cells
        simp only at x0 x1 x2 x3 x4 x5 x6 x7 x8
        go_wp2_with fail
        go_at_call 19
        refine (SM _).mono ?_
        rintro e v2 ⟨dw, dh, dl, dd, dr, di, db, de, da, rfl, hb, f⟩
        have A_v2 : Hid (At w _ v2) := A_v1.out.trans hb
        have hz2 : w.heap.size < v2.heap.size := by have := A_v2.out.size; omega
        have KB : Hid (Blk v2 w.heap.size _) := Blk.keep (Blk.new w _) A_v2.out (by omega)
        clear x0 x1 x2 x3 x4 x5 x6 x7 x8 hb SM
        obtain ⟨⟨x0, x1, x2, x3, x4, x5, x6, x7, x8⟩, g0, g1, g2, g3, g4, g5, g6, g7, g8⟩ := KB.out.nine
        simp only at x0 x1 x2 x3 x4 x5 x6 x7 x8
        have HF : Hid (Fits ⟨dw, dh, dl, dd, dr, di, db, de, da⟩) := f
        clear f
        go_wp2_with fail
        go_meet
        exact ⟨⟨dw, dh, dl, dd, dr, di, db, de, da⟩, KB.out.all ⟨dw, dh, dl, dd, dr, di, db, de, da⟩, HF.out, below_nine A_v2.out.below (Nat.le_refl _) _ _ _ _ _ _ _ _ _⟩
      case rest =>
      obtain ⟨⟨dw, dh, dl, dd, dr, di, db, de, da⟩, hkb, f, hb⟩ := hcut
      obtain ⟨v2, rfl⟩ : ∃ v2 : World, v2 = wc := ⟨_, rfl⟩
      have KB : Hid (Blk v2 w.heap.size ⟨dw, dh, dl, dd, dr, di, db, de, da⟩) := hkb
      have B1 : Hid (Below w.heap.size w v2) := hb
      have hz2 : w.heap.size < v2.heap.size := hkb.lt
      clear hkb hb SM
      obtain ⟨⟨x0, x1, x2, x3, x4, x5, x6, x7, x8⟩, g0, g1, g2, g3, g4, g5, g6, g7, g8⟩ := KB.out.nine
      simp only at x0 x1 x2 x3 x4 x5 x6 x7 x8
      have K2 : Hid (Blk ((v2.setCell ⟨w.heap.size, 8, none⟩ (.bool false)).setCell ⟨w.heap.size, 5, none⟩ (.int .i64 n)) w.heap.size ⟨dw, dh, dl, dd, dr, n, db, de, false⟩) := (KB.out.last false).set 5 (by omega) n
      have B2 : Hid (Below w.heap.size w ((v2.setCell ⟨w.heap.size, 8, none⟩ (.bool false)).setCell ⟨w.heap.size, 5, none⟩ (.int .i64 n))) := (B1.out.setCell (Nat.le_refl _) _).setCell (Nat.le_refl _) _
      have CC := fun v => check_any ⟨dw, dh, dl, dd, dr, n, db, de, false⟩ v
      have hk := (show chk ⟨dw, dh, dl, dd, dr, n, db, de, false⟩ = 10 from chk_conf (by unfold t1; rw [outB_in f.w1 f.w2, outB_in f.h1 f.h2]; rfl) (Or.inr (Or.inl (by unfold t3; rw [outB_not hin]; simp))))
      rw [hk] at CC
      have CD := fun v => check_any ⟨0, dh, dl, dd, dr, n, 0, de, false⟩ v
      rw [chk_size (c := ⟨0, dh, dl, dd, dr, n, 0, de, false⟩) (Or.inl rfl)] at CD
      have NN := fun v => nodes_any ⟨dw, dh, dl, dd, dr, n, db, de, false⟩ v
      rw [nod_none hk (by decide)] at NN
      simp only [cfv, cfc] at CC CD NN
      clear f hk hin
      go_wp2_with fail
      go_at_call 11
      refine (CC _).mono ?_
      rintro e v3 ⟨rfl, hb⟩
      have HK3 : Hid (Blk v3 w.heap.size ⟨dw, dh, dl, dd, dr, n, db, de, false⟩) := (K2.out.alloc (.cells (cfc ⟨0, dh, dl, dd, dr, n, 0, de, false⟩) 23)).below hb
      have B3 : Hid (Below w.heap.size w v3) := (B2.out.alloc B2.out.size _).trans (hb.mono (B2.out.alloc B2.out.size _).size)
      have hsv : ((v2.setCell ⟨w.heap.size, 8, none⟩ (.bool false)).setCell ⟨w.heap.size, 5, none⟩ (.int .i64 n)).heap.size = v2.heap.size := by simp
      have hd3 := (Blk.new ((v2.setCell ⟨w.heap.size, 8, none⟩ (.bool false)).setCell ⟨w.heap.size, 5, none⟩ (.int .i64 n)) ⟨0, dh, dl, dd, dr, n, 0, de, false⟩).below hb
      rw [hsv] at hd3
      have HD3 : Hid (Blk v3 v2.heap.size ⟨0, dh, dl, dd, dr, n, 0, de, false⟩) := hd3
      clear hb CC x0 x1 x2 x3 x4 x5 x6 x7 x8 g0 g1 g2 g3 g4 g5 g6 g7 g8 hsv hd3
      obtain ⟨⟨x0, x1, x2, x3, x4, x5, x6, x7, x8⟩, -⟩ := HD3.out.nine
      simp only at x0 x1 x2 x3 x4 x5 x6 x7 x8
      go_wp2_with fail
      go_at_call 11
      refine (CD _).mono ?_
      rintro e v4 ⟨rfl, hb⟩
      have B4 : Hid (Below w.heap.size w v4) := B3.out.trans (hb.mono B3.out.size)
      have HK4 : Hid (Blk v4 w.heap.size ⟨dw, dh, dl, dd, dr, n, db, de, false⟩) := HK3.out.below hb
      clear hb CD x0 x1 x2 x3 x4 x5 x6 x7 x8
      obtain ⟨⟨x0, x1, x2, x3, x4, x5, x6, x7, x8⟩, -⟩ := HK4.out.nine
      simp only at x0 x1 x2 x3 x4 x5 x6 x7 x8
      go_wp2_with fail
      go_at_call 13
      refine (NN _).mono ?_
      rintro e v5 ⟨rfl, hb⟩
      have B5 : Hid (Below w.heap.size w v5) := B4.out.trans (hb.mono B4.out.size)
      clear hb NN x0 x1 x2 x3 x4 x5 x6 x7 x8
      go_wp2
      go_ret
      exact ⟨rfl, B5.out⟩
    · go_enter Tryd.func7, Tryd.ntmps7
      go_wp2_with fail
      go_at_call 8
      refine LV.mono ?_
      rintro e v1 ⟨rfl, hb⟩
      have A_v1 : Hid (At w _ v1) := A_v0.out.trans hb
      clear hb LV
      go_upto_region 3 with fail
      go_cut [] from 13 to 14 (fun wc => SmP w wc)
      case first =>
        obtain ⟨x0, x1, x2, x3, x4, x5, x6, x7, x8⟩ := A_v1.out.cells
        simp only at x0 x1 x2 x3 x4 x5 x6 x7 x8
        go_wp2_with fail
        go_at_call 19
        refine (SM _).mono ?_
        rintro e v2 ⟨dw, dh, dl, dd, dr, di, db, de, da, rfl, hb, f⟩
        have A_v2 : Hid (At w _ v2) := A_v1.out.trans hb
        have hz2 : w.heap.size < v2.heap.size := by have := A_v2.out.size; omega
        have KB : Hid (Blk v2 w.heap.size _) := Blk.keep (Blk.new w _) A_v2.out (by omega)
        clear x0 x1 x2 x3 x4 x5 x6 x7 x8 hb SM
        obtain ⟨⟨x0, x1, x2, x3, x4, x5, x6, x7, x8⟩, g0, g1, g2, g3, g4, g5, g6, g7, g8⟩ := KB.out.nine
        simp only at x0 x1 x2 x3 x4 x5 x6 x7 x8
        have HF : Hid (Fits ⟨dw, dh, dl, dd, dr, di, db, de, da⟩) := f
        clear f
        go_wp2_with fail
        go_meet
        exact ⟨⟨dw, dh, dl, dd, dr, di, db, de, da⟩, KB.out.all ⟨dw, dh, dl, dd, dr, di, db, de, da⟩, HF.out, below_nine A_v2.out.below (Nat.le_refl _) _ _ _ _ _ _ _ _ _⟩
      case rest =>
      obtain ⟨⟨dw, dh, dl, dd, dr, di, db, de, da⟩, hkb, f, hb⟩ := hcut
      obtain ⟨v2, rfl⟩ : ∃ v2 : World, v2 = wc := ⟨_, rfl⟩
      have KB : Hid (Blk v2 w.heap.size ⟨dw, dh, dl, dd, dr, di, db, de, da⟩) := hkb
      have B1 : Hid (Below w.heap.size w v2) := hb
      have hz2 : w.heap.size < v2.heap.size := hkb.lt
      clear hkb hb SM
      obtain ⟨⟨x0, x1, x2, x3, x4, x5, x6, x7, x8⟩, g0, g1, g2, g3, g4, g5, g6, g7, g8⟩ := KB.out.nine
      simp only at x0 x1 x2 x3 x4 x5 x6 x7 x8
      have K2 : Hid (Blk ((v2.setCell ⟨w.heap.size, 8, none⟩ (.bool false)).setCell ⟨w.heap.size, 5, none⟩ (.int .i64 n)) w.heap.size ⟨dw, dh, dl, dd, dr, n, db, de, false⟩) := (KB.out.last false).set 5 (by omega) n
      have B2 : Hid (Below w.heap.size w ((v2.setCell ⟨w.heap.size, 8, none⟩ (.bool false)).setCell ⟨w.heap.size, 5, none⟩ (.int .i64 n))) := (B1.out.setCell (Nat.le_refl _) _).setCell (Nat.le_refl _) _
      have CC := fun v => check_any ⟨dw, dh, dl, dd, dr, n, db, de, false⟩ v
      have hk := (show chk ⟨dw, dh, dl, dd, dr, n, db, de, false⟩ = 10 from chk_conf (by unfold t1; rw [outB_in f.w1 f.w2, outB_in f.h1 f.h2]; rfl) (Or.inr (Or.inl (by unfold t3; rw [outB_not hin]; simp))))
      rw [hk] at CC
      have CD := fun v => check_any ⟨0, dh, dl, dd, dr, n, 0, de, false⟩ v
      rw [chk_size (c := ⟨0, dh, dl, dd, dr, n, 0, de, false⟩) (Or.inl rfl)] at CD
      have NN := fun v => nodes_any ⟨dw, dh, dl, dd, dr, n, db, de, false⟩ v
      rw [nod_none hk (by decide)] at NN
      simp only [cfv, cfc] at CC CD NN
      clear f hk hin
      go_wp2_with fail
      go_at_call 11
      refine (CC _).mono ?_
      rintro e v3 ⟨rfl, hb⟩
      have HK3 : Hid (Blk v3 w.heap.size ⟨dw, dh, dl, dd, dr, n, db, de, false⟩) := (K2.out.alloc (.cells (cfc ⟨0, dh, dl, dd, dr, n, 0, de, false⟩) 23)).below hb
      have B3 : Hid (Below w.heap.size w v3) := (B2.out.alloc B2.out.size _).trans (hb.mono (B2.out.alloc B2.out.size _).size)
      have hsv : ((v2.setCell ⟨w.heap.size, 8, none⟩ (.bool false)).setCell ⟨w.heap.size, 5, none⟩ (.int .i64 n)).heap.size = v2.heap.size := by simp
      have hd3 := (Blk.new ((v2.setCell ⟨w.heap.size, 8, none⟩ (.bool false)).setCell ⟨w.heap.size, 5, none⟩ (.int .i64 n)) ⟨0, dh, dl, dd, dr, n, 0, de, false⟩).below hb
      rw [hsv] at hd3
      have HD3 : Hid (Blk v3 v2.heap.size ⟨0, dh, dl, dd, dr, n, 0, de, false⟩) := hd3
      clear hb CC x0 x1 x2 x3 x4 x5 x6 x7 x8 g0 g1 g2 g3 g4 g5 g6 g7 g8 hsv hd3
      obtain ⟨⟨x0, x1, x2, x3, x4, x5, x6, x7, x8⟩, -⟩ := HD3.out.nine
      simp only at x0 x1 x2 x3 x4 x5 x6 x7 x8
      go_wp2_with fail
      go_at_call 11
      refine (CD _).mono ?_
      rintro e v4 ⟨rfl, hb⟩
      have B4 : Hid (Below w.heap.size w v4) := B3.out.trans (hb.mono B3.out.size)
      have HK4 : Hid (Blk v4 w.heap.size ⟨dw, dh, dl, dd, dr, n, db, de, false⟩) := HK3.out.below hb
      clear hb CD x0 x1 x2 x3 x4 x5 x6 x7 x8
      obtain ⟨⟨x0, x1, x2, x3, x4, x5, x6, x7, x8⟩, -⟩ := HK4.out.nine
      simp only at x0 x1 x2 x3 x4 x5 x6 x7 x8
      go_wp2_with fail
      go_at_call 13
      refine (NN _).mono ?_
      rintro e v5 ⟨rfl, hb⟩
      have B5 : Hid (Below w.heap.size w v5) := B4.out.trans (hb.mono B4.out.size)
      clear hb NN x0 x1 x2 x3 x4 x5 x6 x7 x8
      go_wp2
      go_ret
      exact ⟨rfl, B5.out⟩

set_option maxRecDepth 100000 in
set_option maxHeartbeats 2000000 in
theorem edges_6 (c : Cf) (x n : Int) (e : (IntKind.u64.wrap x).tmod 7 = 6) (w : World) (hE : Env w) : Calls Tryd.prog 7 #[cfv c, .int .i64 x, .int .i64 n] w fun e w' => e = .returned (.bool true) ∧ Below w.heap.size w w' := by
  have LV := lives_any _ (At.env (At.start w c) hE)
  have SM := fun v => small_form c v
  have A_v0 : Hid (At w c (w.alloc (.cells (cfc c) 23))) := At.start w c
  clear hE
  obtain ⟨cw, ch, cl, cd, cr, ci, cb, we, ca⟩ := c
  simp only [cfv, cfc] at *
  by_cases hin : 1 ≤ n ∧ n ≤ 16
  · go_enter Tryd.func7, Tryd.ntmps7
    go_wp2_with fail
    go_at_call 8
    refine LV.mono ?_
    rintro e v1 ⟨rfl, hb⟩
    have A_v1 : Hid (At w _ v1) := A_v0.out.trans hb
    clear hb LV
    go_upto_region 3 with fail
    go_cut [] from 13 to 14 (fun wc => SmP w wc)
    case first =>
      obtain ⟨x0, x1, x2, x3, x4, x5, x6, x7, x8⟩ := A_v1.out.cells
      simp only at x0 x1 x2 x3 x4 x5 x6 x7 x8
      go_wp2_with fail
      go_at_call 19
      refine (SM _).mono ?_
      rintro e v2 ⟨dw, dh, dl, dd, dr, di, db, de, da, rfl, hb, f⟩
      have A_v2 : Hid (At w _ v2) := A_v1.out.trans hb
      have hz2 : w.heap.size < v2.heap.size := by have := A_v2.out.size; omega
      have KB : Hid (Blk v2 w.heap.size _) := Blk.keep (Blk.new w _) A_v2.out (by omega)
      clear x0 x1 x2 x3 x4 x5 x6 x7 x8 hb SM
      obtain ⟨⟨x0, x1, x2, x3, x4, x5, x6, x7, x8⟩, g0, g1, g2, g3, g4, g5, g6, g7, g8⟩ := KB.out.nine
      simp only at x0 x1 x2 x3 x4 x5 x6 x7 x8
      have HF : Hid (Fits ⟨dw, dh, dl, dd, dr, di, db, de, da⟩) := f
      clear f
      go_wp2_with fail
      go_meet
      exact ⟨⟨dw, dh, dl, dd, dr, di, db, de, da⟩, KB.out.all ⟨dw, dh, dl, dd, dr, di, db, de, da⟩, HF.out, below_nine A_v2.out.below (Nat.le_refl _) _ _ _ _ _ _ _ _ _⟩
    case rest =>
    obtain ⟨⟨dw, dh, dl, dd, dr, di, db, de, da⟩, hkb, f, hb⟩ := hcut
    obtain ⟨v2, rfl⟩ : ∃ v2 : World, v2 = wc := ⟨_, rfl⟩
    have KB : Hid (Blk v2 w.heap.size ⟨dw, dh, dl, dd, dr, di, db, de, da⟩) := hkb
    have B1 : Hid (Below w.heap.size w v2) := hb
    have hz2 : w.heap.size < v2.heap.size := hkb.lt
    clear hkb hb SM
    obtain ⟨⟨x0, x1, x2, x3, x4, x5, x6, x7, x8⟩, g0, g1, g2, g3, g4, g5, g6, g7, g8⟩ := KB.out.nine
    simp only at x0 x1 x2 x3 x4 x5 x6 x7 x8
    have K2 : Hid (Blk ((v2.setCell ⟨w.heap.size, 8, none⟩ (.bool false)).setCell ⟨w.heap.size, 6, none⟩ (.int .i64 n)) w.heap.size ⟨dw, dh, dl, dd, dr, di, n, de, false⟩) := (KB.out.last false).set 6 (by omega) n
    have B2 : Hid (Below w.heap.size w ((v2.setCell ⟨w.heap.size, 8, none⟩ (.bool false)).setCell ⟨w.heap.size, 6, none⟩ (.int .i64 n))) := (B1.out.setCell (Nat.le_refl _) _).setCell (Nat.le_refl _) _
    have CC := fun v => check_any ⟨dw, dh, dl, dd, dr, di, n, de, false⟩ v
    rw [chk_fits (c := ⟨dw, dh, dl, dd, dr, di, n, de, false⟩) ⟨f.w1, f.w2, f.h1, f.h2, f.l1, f.l2, fun h => absurd h Bool.false_ne_true, f.d1, f.d2, f.r1, f.r2, f.i1, f.i2, hin.1, hin.2⟩] at CC
    simp only [cfv, cfc] at CC
    obtain ⟨hn1, hn2⟩ := hin
    clear f
    go_wp2_with fail
    go_at_call 11
    refine (CC _).mono ?_
    rintro e v3 ⟨rfl, hb⟩
    have B3 : Hid (Below w.heap.size w v3) := (B2.out.alloc B2.out.size _).trans (hb.mono (B2.out.alloc B2.out.size _).size)
    clear hb CC x0 x1 x2 x3 x4 x5 x6 x7 x8 g0 g1 g2 g3 g4 g5 g6 g7 g8
    go_wp2
    go_ret
    exact ⟨rfl, B3.out⟩
  · rcases (by omega : n < 1 ∨ (16 < n ∧ 1 ≤ n)) with hlo | ⟨hup, hlo⟩
    · go_enter Tryd.func7, Tryd.ntmps7
      go_wp2_with fail
      go_at_call 8
      refine LV.mono ?_
      rintro e v1 ⟨rfl, hb⟩
      have A_v1 : Hid (At w _ v1) := A_v0.out.trans hb
      clear hb LV
      go_upto_region 3 with fail
      go_cut [] from 13 to 14 (fun wc => SmP w wc)
      case first =>
        obtain ⟨x0, x1, x2, x3, x4, x5, x6, x7, x8⟩ := A_v1.out.cells
        simp only at x0 x1 x2 x3 x4 x5 x6 x7 x8
        go_wp2_with fail
        go_at_call 19
        refine (SM _).mono ?_
        rintro e v2 ⟨dw, dh, dl, dd, dr, di, db, de, da, rfl, hb, f⟩
        have A_v2 : Hid (At w _ v2) := A_v1.out.trans hb
        have hz2 : w.heap.size < v2.heap.size := by have := A_v2.out.size; omega
        have KB : Hid (Blk v2 w.heap.size _) := Blk.keep (Blk.new w _) A_v2.out (by omega)
        clear x0 x1 x2 x3 x4 x5 x6 x7 x8 hb SM
        obtain ⟨⟨x0, x1, x2, x3, x4, x5, x6, x7, x8⟩, g0, g1, g2, g3, g4, g5, g6, g7, g8⟩ := KB.out.nine
        simp only at x0 x1 x2 x3 x4 x5 x6 x7 x8
        have HF : Hid (Fits ⟨dw, dh, dl, dd, dr, di, db, de, da⟩) := f
        clear f
        go_wp2_with fail
        go_meet
        exact ⟨⟨dw, dh, dl, dd, dr, di, db, de, da⟩, KB.out.all ⟨dw, dh, dl, dd, dr, di, db, de, da⟩, HF.out, below_nine A_v2.out.below (Nat.le_refl _) _ _ _ _ _ _ _ _ _⟩
      case rest =>
      obtain ⟨⟨dw, dh, dl, dd, dr, di, db, de, da⟩, hkb, f, hb⟩ := hcut
      obtain ⟨v2, rfl⟩ : ∃ v2 : World, v2 = wc := ⟨_, rfl⟩
      have KB : Hid (Blk v2 w.heap.size ⟨dw, dh, dl, dd, dr, di, db, de, da⟩) := hkb
      have B1 : Hid (Below w.heap.size w v2) := hb
      have hz2 : w.heap.size < v2.heap.size := hkb.lt
      clear hkb hb SM
      obtain ⟨⟨x0, x1, x2, x3, x4, x5, x6, x7, x8⟩, g0, g1, g2, g3, g4, g5, g6, g7, g8⟩ := KB.out.nine
      simp only at x0 x1 x2 x3 x4 x5 x6 x7 x8
      have K2 : Hid (Blk ((v2.setCell ⟨w.heap.size, 8, none⟩ (.bool false)).setCell ⟨w.heap.size, 6, none⟩ (.int .i64 n)) w.heap.size ⟨dw, dh, dl, dd, dr, di, n, de, false⟩) := (KB.out.last false).set 6 (by omega) n
      have B2 : Hid (Below w.heap.size w ((v2.setCell ⟨w.heap.size, 8, none⟩ (.bool false)).setCell ⟨w.heap.size, 6, none⟩ (.int .i64 n))) := (B1.out.setCell (Nat.le_refl _) _).setCell (Nat.le_refl _) _
      have CC := fun v => check_any ⟨dw, dh, dl, dd, dr, di, n, de, false⟩ v
      have hk := (show chk ⟨dw, dh, dl, dd, dr, di, n, de, false⟩ = 10 from chk_conf (by unfold t1; rw [outB_in f.w1 f.w2, outB_in f.h1 f.h2]; rfl) (Or.inr (Or.inr (by unfold t4; exact outB_not hin))))
      rw [hk] at CC
      have CD := fun v => check_any ⟨0, dh, dl, dd, dr, di, 0, de, false⟩ v
      rw [chk_size (c := ⟨0, dh, dl, dd, dr, di, 0, de, false⟩) (Or.inl rfl)] at CD
      have NN := fun v => nodes_any ⟨dw, dh, dl, dd, dr, di, n, de, false⟩ v
      rw [nod_none hk (by decide)] at NN
      simp only [cfv, cfc] at CC CD NN
      clear f hk hin
      go_wp2_with fail
      go_at_call 11
      refine (CC _).mono ?_
      rintro e v3 ⟨rfl, hb⟩
      have HK3 : Hid (Blk v3 w.heap.size ⟨dw, dh, dl, dd, dr, di, n, de, false⟩) := (K2.out.alloc (.cells (cfc ⟨0, dh, dl, dd, dr, di, 0, de, false⟩) 23)).below hb
      have B3 : Hid (Below w.heap.size w v3) := (B2.out.alloc B2.out.size _).trans (hb.mono (B2.out.alloc B2.out.size _).size)
      have hsv : ((v2.setCell ⟨w.heap.size, 8, none⟩ (.bool false)).setCell ⟨w.heap.size, 6, none⟩ (.int .i64 n)).heap.size = v2.heap.size := by simp
      have hd3 := (Blk.new ((v2.setCell ⟨w.heap.size, 8, none⟩ (.bool false)).setCell ⟨w.heap.size, 6, none⟩ (.int .i64 n)) ⟨0, dh, dl, dd, dr, di, 0, de, false⟩).below hb
      rw [hsv] at hd3
      have HD3 : Hid (Blk v3 v2.heap.size ⟨0, dh, dl, dd, dr, di, 0, de, false⟩) := hd3
      clear hb CC x0 x1 x2 x3 x4 x5 x6 x7 x8 g0 g1 g2 g3 g4 g5 g6 g7 g8 hsv hd3
      obtain ⟨⟨x0, x1, x2, x3, x4, x5, x6, x7, x8⟩, -⟩ := HD3.out.nine
      simp only at x0 x1 x2 x3 x4 x5 x6 x7 x8
      go_wp2_with fail
      go_at_call 11
      refine (CD _).mono ?_
      rintro e v4 ⟨rfl, hb⟩
      have B4 : Hid (Below w.heap.size w v4) := B3.out.trans (hb.mono B3.out.size)
      have HK4 : Hid (Blk v4 w.heap.size ⟨dw, dh, dl, dd, dr, di, n, de, false⟩) := HK3.out.below hb
      clear hb CD x0 x1 x2 x3 x4 x5 x6 x7 x8
      obtain ⟨⟨x0, x1, x2, x3, x4, x5, x6, x7, x8⟩, -⟩ := HK4.out.nine
      simp only at x0 x1 x2 x3 x4 x5 x6 x7 x8
      go_wp2_with fail
      go_at_call 13
      refine (NN _).mono ?_
      rintro e v5 ⟨rfl, hb⟩
      have B5 : Hid (Below w.heap.size w v5) := B4.out.trans (hb.mono B4.out.size)
      clear hb NN x0 x1 x2 x3 x4 x5 x6 x7 x8
      go_wp2
      go_ret
      exact ⟨rfl, B5.out⟩
    · go_enter Tryd.func7, Tryd.ntmps7
      go_wp2_with fail
      go_at_call 8
      refine LV.mono ?_
      rintro e v1 ⟨rfl, hb⟩
      have A_v1 : Hid (At w _ v1) := A_v0.out.trans hb
      clear hb LV
      go_upto_region 3 with fail
      go_cut [] from 13 to 14 (fun wc => SmP w wc)
      case first =>
        obtain ⟨x0, x1, x2, x3, x4, x5, x6, x7, x8⟩ := A_v1.out.cells
        simp only at x0 x1 x2 x3 x4 x5 x6 x7 x8
        go_wp2_with fail
        go_at_call 19
        refine (SM _).mono ?_
        rintro e v2 ⟨dw, dh, dl, dd, dr, di, db, de, da, rfl, hb, f⟩
        have A_v2 : Hid (At w _ v2) := A_v1.out.trans hb
        have hz2 : w.heap.size < v2.heap.size := by have := A_v2.out.size; omega
        have KB : Hid (Blk v2 w.heap.size _) := Blk.keep (Blk.new w _) A_v2.out (by omega)
        clear x0 x1 x2 x3 x4 x5 x6 x7 x8 hb SM
        obtain ⟨⟨x0, x1, x2, x3, x4, x5, x6, x7, x8⟩, g0, g1, g2, g3, g4, g5, g6, g7, g8⟩ := KB.out.nine
        simp only at x0 x1 x2 x3 x4 x5 x6 x7 x8
        have HF : Hid (Fits ⟨dw, dh, dl, dd, dr, di, db, de, da⟩) := f
        clear f
        go_wp2_with fail
        go_meet
        exact ⟨⟨dw, dh, dl, dd, dr, di, db, de, da⟩, KB.out.all ⟨dw, dh, dl, dd, dr, di, db, de, da⟩, HF.out, below_nine A_v2.out.below (Nat.le_refl _) _ _ _ _ _ _ _ _ _⟩
      case rest =>
      obtain ⟨⟨dw, dh, dl, dd, dr, di, db, de, da⟩, hkb, f, hb⟩ := hcut
      obtain ⟨v2, rfl⟩ : ∃ v2 : World, v2 = wc := ⟨_, rfl⟩
      have KB : Hid (Blk v2 w.heap.size ⟨dw, dh, dl, dd, dr, di, db, de, da⟩) := hkb
      have B1 : Hid (Below w.heap.size w v2) := hb
      have hz2 : w.heap.size < v2.heap.size := hkb.lt
      clear hkb hb SM
      obtain ⟨⟨x0, x1, x2, x3, x4, x5, x6, x7, x8⟩, g0, g1, g2, g3, g4, g5, g6, g7, g8⟩ := KB.out.nine
      simp only at x0 x1 x2 x3 x4 x5 x6 x7 x8
      have K2 : Hid (Blk ((v2.setCell ⟨w.heap.size, 8, none⟩ (.bool false)).setCell ⟨w.heap.size, 6, none⟩ (.int .i64 n)) w.heap.size ⟨dw, dh, dl, dd, dr, di, n, de, false⟩) := (KB.out.last false).set 6 (by omega) n
      have B2 : Hid (Below w.heap.size w ((v2.setCell ⟨w.heap.size, 8, none⟩ (.bool false)).setCell ⟨w.heap.size, 6, none⟩ (.int .i64 n))) := (B1.out.setCell (Nat.le_refl _) _).setCell (Nat.le_refl _) _
      have CC := fun v => check_any ⟨dw, dh, dl, dd, dr, di, n, de, false⟩ v
      have hk := (show chk ⟨dw, dh, dl, dd, dr, di, n, de, false⟩ = 10 from chk_conf (by unfold t1; rw [outB_in f.w1 f.w2, outB_in f.h1 f.h2]; rfl) (Or.inr (Or.inr (by unfold t4; exact outB_not hin))))
      rw [hk] at CC
      have CD := fun v => check_any ⟨0, dh, dl, dd, dr, di, 0, de, false⟩ v
      rw [chk_size (c := ⟨0, dh, dl, dd, dr, di, 0, de, false⟩) (Or.inl rfl)] at CD
      have NN := fun v => nodes_any ⟨dw, dh, dl, dd, dr, di, n, de, false⟩ v
      rw [nod_none hk (by decide)] at NN
      simp only [cfv, cfc] at CC CD NN
      clear f hk hin
      go_wp2_with fail
      go_at_call 11
      refine (CC _).mono ?_
      rintro e v3 ⟨rfl, hb⟩
      have HK3 : Hid (Blk v3 w.heap.size ⟨dw, dh, dl, dd, dr, di, n, de, false⟩) := (K2.out.alloc (.cells (cfc ⟨0, dh, dl, dd, dr, di, 0, de, false⟩) 23)).below hb
      have B3 : Hid (Below w.heap.size w v3) := (B2.out.alloc B2.out.size _).trans (hb.mono (B2.out.alloc B2.out.size _).size)
      have hsv : ((v2.setCell ⟨w.heap.size, 8, none⟩ (.bool false)).setCell ⟨w.heap.size, 6, none⟩ (.int .i64 n)).heap.size = v2.heap.size := by simp
      have hd3 := (Blk.new ((v2.setCell ⟨w.heap.size, 8, none⟩ (.bool false)).setCell ⟨w.heap.size, 6, none⟩ (.int .i64 n)) ⟨0, dh, dl, dd, dr, di, 0, de, false⟩).below hb
      rw [hsv] at hd3
      have HD3 : Hid (Blk v3 v2.heap.size ⟨0, dh, dl, dd, dr, di, 0, de, false⟩) := hd3
      clear hb CC x0 x1 x2 x3 x4 x5 x6 x7 x8 g0 g1 g2 g3 g4 g5 g6 g7 g8 hsv hd3
      obtain ⟨⟨x0, x1, x2, x3, x4, x5, x6, x7, x8⟩, -⟩ := HD3.out.nine
      simp only at x0 x1 x2 x3 x4 x5 x6 x7 x8
      go_wp2_with fail
      go_at_call 11
      refine (CD _).mono ?_
      rintro e v4 ⟨rfl, hb⟩
      have B4 : Hid (Below w.heap.size w v4) := B3.out.trans (hb.mono B3.out.size)
      have HK4 : Hid (Blk v4 w.heap.size ⟨dw, dh, dl, dd, dr, di, n, de, false⟩) := HK3.out.below hb
      clear hb CD x0 x1 x2 x3 x4 x5 x6 x7 x8
      obtain ⟨⟨x0, x1, x2, x3, x4, x5, x6, x7, x8⟩, -⟩ := HK4.out.nine
      simp only at x0 x1 x2 x3 x4 x5 x6 x7 x8
      go_wp2_with fail
      go_at_call 13
      refine (NN _).mono ?_
      rintro e v5 ⟨rfl, hb⟩
      have B5 : Hid (Below w.heap.size w v5) := B4.out.trans (hb.mono B4.out.size)
      clear hb NN x0 x1 x2 x3 x4 x5 x6 x7 x8
      go_wp2
      go_ret
      exact ⟨rfl, B5.out⟩

theorem configEdges_any (c : Cf) (x n : Int) (w : World) (hE : Env w) : Calls Tryd.prog 7 #[cfv c, .int .i64 x, .int .i64 n] w fun e w' => e = .returned (.bool true) ∧ Below w.heap.size w w' := by
  obtain ⟨q, e, h0, h7⟩ := tm_in x 7 (by decide)
  rcases (by omega : q = 0 ∨ q = 1 ∨ q = 2 ∨ q = 3 ∨ q = 4 ∨ q = 5 ∨ q = 6) with rfl | rfl | rfl | rfl | rfl | rfl | rfl
  · exact edges_0 c x n e w hE
  · exact edges_1 c x n e w hE
  · exact edges_2 c x n e w hE
  · exact edges_3 c x n e w hE
  · exact edges_4 c x n e w hE
  · exact edges_5 c x n e w hE
  · exact edges_6 c x n e w hE
end Go.Proofs.YtkebplapjkefiaaDoor
