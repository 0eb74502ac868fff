/-
  The law of what is put in: its walk. (Written by gen_nputw.py.)
-/
import Derived.Test.YtoejpngdkcnnhaaGreatNcPutP
import Derived.Test.YtoejpngdkcnnhaaGreatNcPt
import Derived.Test.YtoejpngdkcnnhaaGreatNcQt
import Derived.Test.YtoejpngdkcnnhaaGreatNcBack
import Derived.Test.YtoejpngdkcnnhaaGreatNcRefW
import Derived.Deep.CutBlock
namespace Go.Proofs.YtoejpngdkcnnhaaGreat
open Go.RowKit

theorem nine_set {v : World} {A : Nat} {t : TypeId} {a0 a1 a2 a3 a4 a5 a6 a7 a8 x0 x1 x2 x3 x4 x5 x6 x7 x8 : Value} (h : Bk v A #[a0, a1, a2, a3, a4, a5, a6, a7, a8] t) : Bk (((((((((v.setCell ⟨A, 0, none⟩ x0).setCell ⟨A, 1, none⟩ x1).setCell ⟨A, 2, none⟩ x2).setCell ⟨A, 3, none⟩ x3).setCell ⟨A, 4, none⟩ x4).setCell ⟨A, 5, none⟩ x5).setCell ⟨A, 6, none⟩ x6).setCell ⟨A, 7, none⟩ x7).setCell ⟨A, 8, none⟩ x8) A #[x0, x1, x2, x3, x4, x5, x6, x7, x8] t := by
  have := ((((((((h.set 0 x0).set 1 x1).set 2 x2).set 3 x3).set 4 x4).set 5 x5).set 6 x6).set 7 x7).set 8 x8
  simpa using this
theorem Pt.start {w0 w v : World} {A b ib : Nat} {c : G.Cf} {nd : Int} {F : Nat → Prop} {jb : Nat → Nat} (h : Lay w v b ib c nd F jb 40) (hb : Below w0.heap.size w0 w) (hA : Bk w A (G.cfc c) 23) (h1 : w0.heap.size ≤ A) : Pt w0 v A b ib c ⟨c, nd, 0, 0⟩ (.slice none 0 0) (jp c.l jb 40) v.heap.size [] (fun _ => False) (.slice none 0 0) (.slice none 0 0) (.slice none 0 0) [] [] [] :=
  ⟨hb.trans (h.bl.mono hb.size), h.nb, Snd.nil _ _, hA.next h.bl, OwnK.nil _ _ _ _, OwnK.nil _ _ _ _, OwnK.nil _ _ _ _, fun _ hq => (by cases hq), fun _ hq => (by cases hq), fun _ hq => (by cases hq), fun _ hq => (by cases hq), h1, Nat.lt_of_lt_of_le hA.lt h.hb, h.nb.lt, Nat.le_refl _, fun _ h => h.elim⟩
theorem info4b : (Tryz.prog.info? 4).map (fun i => (i.zero, i.size, i.bytes)) = some (some (.bool false), 1, 1) := by kernel_rfl
theorem fst0_take {n j : Nat} (h : j < n) : (fst0 n).take j ++ [((j : Int) == 0)] = (fst0 n).take (j + 1) := by
  have e1 : (fst0 n)[j]? = some (j == 0) := by
    unfold fst0
    rw [List.getElem?_map, List.getElem?_range h]
    rfl
  have e2 : ((j : Int) == 0) = (j == 0) := Bool.eq_iff_iff.2 (by simp)
  rw [List.take_add_one, e1, e2]
  rfl
theorem rd_grown {w w' : World} {r : Option Nat} {b o : Nat} {l : List Value} (h : Rd w (some ⟨b, o, none⟩) l) (hg : w.grownBy w' r) (hne : r ≠ some b) : Rd w' (some ⟨b, o, none⟩) l := fun j v hj => by
  obtain ⟨g, off, e, hlt, hc⟩ := h j v hj
  cases e
  exact ⟨_, _, rfl, Nat.lt_of_lt_of_le hlt hg.size, by rw [World.cell?_of_block (hg.block _ hlt fun e => hne e.symm)]; exact hc⟩
set_option maxRecDepth 100000 in
set_option maxHeartbeats 16000000 in
theorem nputs_law (c0 : G.Cf) (nd0 : Int) (l : List Pc) (a : Option Addr) (cap : Nat) (w : World) (hr : PsRd w a l) :
    Calls Tryz.prog 3 #[G.cfv c0, .int .i64 nd0, .slice a l.length cap] w fun e w' => e = .returned (.bool true) ∧ Below w.heap.size w w' := by
  have LV := fun v => lives_any v
  have CS := fun v => G.small_form c0 v
  have HPS : Hid (PsRd w a l) := hr
  obtain ⟨n, hn⟩ : ∃ n, l.length = n := ⟨_, rfl⟩
  have HN : Hid (l.length = n) := hn
  rw [hn]
  clear hr hn
  obtain ⟨cw, ch, cl, cd, cr, ci, cb, we, ca⟩ := c0
  simp only [G.cfv, G.cfc] at *
  have B0 : Hid (Bk (w.alloc (.cells #[.int .i64 cw, .int .i64 ch, .int .i64 cl, .int .i64 cd, .int .i64 cr, .int .i64 ci, .int .i64 cb, .bool we, .bool ca] 23)) w.heap.size #[.int .i64 cw, .int .i64 ch, .int .i64 cl, .int .i64 cd, .int .i64 cr, .int .i64 ci, .int .i64 cb, .bool we, .bool ca] 23) := Bk.new _ _ _
  have HBW : Hid (Below w.heap.size w (w.alloc (.cells #[.int .i64 cw, .int .i64 ch, .int .i64 cl, .int .i64 cd, .int .i64 cr, .int .i64 ci, .int .i64 cb, .bool we, .bool ca] 23))) := (Below.refl _ _).alloc (Nat.le_refl _) _
  go_enter Tryz.func3, Tryz.ntmps3
  go_upto_region 1 with fail
  generalize w.alloc (.cells #[.int .i64 cw, .int .i64 ch, .int .i64 cl, .int .i64 cd, .int .i64 cr, .int .i64 ci, .int .i64 cb, .bool we, .bool ca] 23) = v at *
  obtain ⟨A, hA⟩ : ∃ r, w.heap.size = r := ⟨_, rfl⟩
  have HA : Hid (w.heap.size = A) := hA
  rw [hA] at B0 ⊢
  clear hA
  have L0 := LV v
  clear LV
  go_upto_region 3 with (go_at_call 5; with_reducible refine L0.mono ?_; rintro e v1 ⟨rfl, b1⟩)
  have B1 : Hid (Bk v1 A #[.int .i64 cw, .int .i64 ch, .int .i64 cl, .int .i64 cd, .int .i64 cr, .int .i64 ci, .int .i64 cb, .bool we, .bool ca] 23) := B0.out.next b1
  have HB1 : Hid (Below w.heap.size w v1) := HBW.out.trans (b1.mono HBW.out.size)
  clear L0 B0 HBW b1
  obtain ⟨k0, k1, k2, k3, k4, k5, k6, k7, k8⟩ := ncfg B1.out
  go_wp2_with fail
  go_at_call 6
  with_reducible refine (CS v1).mono ?_
  rintro e v2 ⟨dw, dh, dl, dd, dr, di, db, de, da, rfl, b2, ft, s4, s5⟩
  have B2 : Hid (Bk v2 A #[.int .i64 cw, .int .i64 ch, .int .i64 cl, .int .i64 cd, .int .i64 cr, .int .i64 ci, .int .i64 cb, .bool we, .bool ca] 23) := B1.out.next b2
  have HB2 : Hid (Below w.heap.size w v2) := HB1.out.trans (b2.mono HB1.out.size)
  have FT : Hid (G.Fits ⟨dw, dh, dl, dd, dr, di, db, de, da⟩) := ft
  clear CS b2 ft s4 s5 B1 HB1 k0 k1 k2 k3 k4 k5 k6 k7 k8
  have QAc := B2.out
  have f0 := QAc.free 0
  have f1 := QAc.free 1
  have f2 := QAc.free 2
  have f3 := QAc.free 3
  have f4 := QAc.free 4
  have f5 := QAc.free 5
  have f6 := QAc.free 6
  have f7 := QAc.free 7
  have f8 := QAc.free 8
  obtain ⟨k0, k1, k2, k3, k4, k5, k6, k7, k8⟩ := ncfg QAc
  clear QAc
  go_upto_region 4 with fail
  have QE : Hid (Bk (((((((((v2.setCell ⟨A, 0, none⟩ (.int .i64 dw)).setCell ⟨A, 1, none⟩ (.int .i64 dh)).setCell ⟨A, 2, none⟩ (.int .i64 dl)).setCell ⟨A, 3, none⟩ (.int .i64 dd)).setCell ⟨A, 4, none⟩ (.int .i64 dr)).setCell ⟨A, 5, none⟩ (.int .i64 di)).setCell ⟨A, 6, none⟩ (.int .i64 db)).setCell ⟨A, 7, none⟩ (.bool de)).setCell ⟨A, 8, none⟩ (.bool da)) A #[.int .i64 dw, .int .i64 dh, .int .i64 dl, .int .i64 dd, .int .i64 dr, .int .i64 di, .int .i64 db, .bool de, .bool da] 23) := nine_set B2.out
  have HB3 : Hid (Below w.heap.size w (((((((((v2.setCell ⟨A, 0, none⟩ (.int .i64 dw)).setCell ⟨A, 1, none⟩ (.int .i64 dh)).setCell ⟨A, 2, none⟩ (.int .i64 dl)).setCell ⟨A, 3, none⟩ (.int .i64 dd)).setCell ⟨A, 4, none⟩ (.int .i64 dr)).setCell ⟨A, 5, none⟩ (.int .i64 di)).setCell ⟨A, 6, none⟩ (.int .i64 db)).setCell ⟨A, 7, none⟩ (.bool de)).setCell ⟨A, 8, none⟩ (.bool da))) := show _ from by
    have hk : w.heap.size ≤ A := by rw [HA.out]; exact Nat.le_refl _
    exact below_set (below_set (below_set (below_set (below_set (below_set (below_set (below_set (below_set HB2.out hk _ _) hk _ _) hk _ _) hk _ _) hk _ _) hk _ _) hk _ _) hk _ _) hk _ _
  clear f0 f1 f2 f3 f4 f5 f6 f7 f8 k0 k1 k2 k3 k4 k5 k6 k7 k8 B2 HB2
  generalize (((((((((v2.setCell ⟨A, 0, none⟩ (.int .i64 dw)).setCell ⟨A, 1, none⟩ (.int .i64 dh)).setCell ⟨A, 2, none⟩ (.int .i64 dl)).setCell ⟨A, 3, none⟩ (.int .i64 dd)).setCell ⟨A, 4, none⟩ (.int .i64 dr)).setCell ⟨A, 5, none⟩ (.int .i64 di)).setCell ⟨A, 6, none⟩ (.int .i64 db)).setCell ⟨A, 7, none⟩ (.bool de)).setCell ⟨A, 8, none⟩ (.bool da)) = v3 at *
  have NC : Hid (G.chk ⟨dw, dh, dl, dd, dr, di, db, de, da⟩ = 0 ∧ G.nod ⟨dw, dh, dl, dd, dr, di, db, de, da⟩ ≤ 4096) := show _ ∧ _ from by
    have hk := G.chk_fits FT.out
    have hn : G.nod ⟨dw, dh, dl, dd, dr, di, db, de, da⟩ = dw * dh := by unfold G.nod; rw [if_pos hk]
    exact ⟨hk, by rw [hn]; exact (G.mul_in FT.out.w1 FT.out.w2 FT.out.h1 FT.out.h2).2⟩
  have ND := fun u y => G.node_any ⟨dw, dh, dl, dd, dr, di, db, de, da⟩ NC.out.1 u y
  simp only [G.cfv, G.cfc] at ND
  obtain ⟨nd, hnd⟩ : ∃ z, G.nde ⟨dw, dh, dl, dd, dr, di, db, de, da⟩ nd0 = z := ⟨_, rfl⟩
  have HND : Hid (G.isN ⟨dw, dh, dl, dd, dr, di, db, de, da⟩ nd = true) := show _ = _ from by rw [← hnd]; exact G.nde_in NC.out.1 nd0
  have ND0 := ND nd0 v3
  rw [hnd] at ND0
  have HNA : Hid (∀ u y, Calls Tryz.prog 7 #[.agg #[.int .i64 dw, .int .i64 dh, .int .i64 dl, .int .i64 dd, .int .i64 dr, .int .i64 di, .int .i64 db, .bool de, .bool da], .int .i64 u] y fun e w' => e = .returned (.int .i64 (G.nde ⟨dw, dh, dl, dd, dr, di, db, de, da⟩ u)) ∧ Below y.heap.size y w') := show _ from ND
  clear ND hnd
  obtain ⟨k0, k1, k2, k3, k4, k5, k6, k7, k8⟩ := ncfg QE.out
  go_upto_region 5 with (go_at_call 7; with_reducible refine ND0.mono ?_; rintro e v4 ⟨rfl, b4⟩)
  have QF : Hid (Bk v4 A #[.int .i64 dw, .int .i64 dh, .int .i64 dl, .int .i64 dd, .int .i64 dr, .int .i64 di, .int .i64 db, .bool de, .bool da] 23) := QE.out.next b4
  have HB4 : Hid (Below w.heap.size w v4) := HB3.out.trans (b4.mono HB3.out.size)
  clear k0 k1 k2 k3 k4 k5 k6 k7 k8 QE HB3 ND0 b4
  obtain ⟨k0, k1, k2, k3, k4, k5, k6, k7, k8⟩ := ncfg QF.out
  have CN := nic_new ⟨dw, dh, dl, dd, dr, di, db, de, da⟩ nd v4 HND.out ⟨FT.out.l1, FT.out.l2⟩
  simp only [G.cfv, G.cfc] at CN
  go_upto_region 6 with (go_at_call 8; with_reducible refine CN.mono ?_; rintro e v5 ⟨b, ib, F, jb, rfl, ly⟩)
  have P5 : Hid (Pt w v5 A b ib ⟨dw, dh, dl, dd, dr, di, db, de, da⟩ ⟨⟨dw, dh, dl, dd, dr, di, db, de, da⟩, nd, 0, 0⟩ (.slice none 0 0) (jp dl jb 40) v5.heap.size [] (fun _ => False) (.slice none 0 0) (.slice none 0 0) (.slice none 0 0) [] [] []) := Pt.start ly HB4.out QF.out (by rw [HA.out]; exact Nat.le_refl _)
  clear CN ly k0 k1 k2 k3 k4 k5 k6 k7 k8 QF HB4
  obtain ⟨BB, hBB⟩ : ∃ z, v5.heap.size = z := ⟨_, rfl⟩
  rw [hBB] at P5
  clear hBB
  generalize jp dl jb 40 = J at *
  go_upto_block 0 with fail
  go_cut [8, 9, 10] from 35 to 112 (fun z8 z9 z10 wc => ∃ (N : Nat) (cu : Value) (es : List En) (H : Nat → Prop), N ≤ 8 ∧ es.length = N ∧ (∀ y ∈ es, enOk ⟨dw, dh, dl, dd, dr, di, db, de, da⟩ y) ∧ Pt w wc A b ib ⟨dw, dh, dl, dd, dr, di, db, de, da⟩ ⟨⟨dw, dh, dl, dd, dr, di, db, de, da⟩, nd, (N : Int), ((wdl es).length : Int)⟩ cu J BB (lns es) H z8 z9 z10 (wdl es) (ftl es) (csl es))
  case first =>
    go_wp2_with fail
    go_loopw [8, 9, 10, 11] (fun z8 z9 z10 x wr => ∃ (i : Nat) (cu : Value) (es : List En) (H : Nat → Prop), i ≤ n ∧ i ≤ 8 ∧ x = .int .i64 (i : Int) ∧ es.length = i ∧ (∀ y ∈ es, enOk ⟨dw, dh, dl, dd, dr, di, db, de, da⟩ y) ∧ Pt w wr A b ib ⟨dw, dh, dl, dd, dr, di, db, de, da⟩ ⟨⟨dw, dh, dl, dd, dr, di, db, de, da⟩, nd, (i : Int), ((wdl es).length : Int)⟩ cu J BB (lns es) H z8 z9 z10 (wdl es) (ftl es) (csl es)) (fun _ _ _ x _ => 8 - (RowKit.intOf x).toNat)
    case atStart => exact ⟨0, _, [], _, Nat.zero_le _, by decide, rfl, rfl, fun y hy => (by cases hy), P5.out⟩
    case round =>
      clear P5
      obtain ⟨i, cu, es, H, hi1, hi2, rfl, hes, hen, pt⟩ := hrel
      have PT : Hid (Pt w wr A b ib ⟨dw, dh, dl, dd, dr, di, db, de, da⟩ ⟨⟨dw, dh, dl, dd, dr, di, db, de, da⟩, nd, (i : Int), ((wdl es).length : Int)⟩ cu J BB (lns es) H _ _ _ (wdl es) (ftl es) (csl es)) := pt
      have HES : Hid (es.length = i ∧ ∀ y ∈ es, enOk ⟨dw, dh, dl, dd, dr, di, db, de, da⟩ y) := show _ ∧ _ from ⟨hes, hen⟩
      clear pt hes hen
      generalize wr = y0 at *
      by_cases hlt : i < n ∧ i < 8
      case neg =>
        by_cases hin : i < n
        · have h1 : (i : Int) < (n : Int) := by omega
          have h2 : ¬ (i : Int) < 8 := by omega
          go_wp2_with fail
          go_meet
          exact ⟨i, cu, es, H, hi2, HES.out.1, HES.out.2, PT.out⟩
        · have h1 : ¬ (i : Int) < (n : Int) := by omega
          go_wp2_with fail
          go_meet
          exact ⟨i, cu, es, H, hi2, HES.out.1, HES.out.2, PT.out⟩
      obtain ⟨h1, h2⟩ := hlt
      have g1 : (i : Int) < (n : Int) := by omega
      have g2 : (i : Int) < 8 := by omega
      have g3 : (0 : Int) ≤ (i : Int) := by omega
      have HI : Hid (i < n ∧ i < 8) := show _ ∧ _ from ⟨h1, h2⟩

      obtain ⟨P, hP⟩ : ∃ P, l[i]? = some P := ⟨_, List.getElem?_eq_getElem (by rw [HN.out]; exact h1)⟩
      obtain ⟨ag, ao, rfl, hag, c0, c1, c3, pa, pcap, c2, hp1, hp2, hp3⟩ := HPS.out i P hP
      obtain ⟨ps, pcb, phs, px⟩ := P
      simp only at c0 c1 c2 c3 hp1 hp2 hp3
      have d0 := (PT.out.bl.cell (p := ⟨ag, ao + i * 4, none⟩) hag).trans c0
      have d1 := (PT.out.bl.cell (p := ⟨ag, ao + i * 4 + 1, none⟩) hag).trans c1
      have d2 := (PT.out.bl.cell (p := ⟨ag, ao + i * 4 + 2, none⟩) hag).trans c2
      have d3 := (PT.out.bl.cell (p := ⟨ag, ao + i * 4 + 3, none⟩) hag).trans c3
      have HPR : Hid (phs.length ≤ maxLen ∧ px.size ≤ maxLen ∧ Rd w pa (pc phs)) := show _ ∧ _ ∧ _ from ⟨hp1, hp2, hp3⟩
      clear c0 c1 c2 c3 hp1 hp2 hp3 hP h1 h2
      go_upto_region 13 with fail
      have X1 := Bk.new y0 #[.int .i64 ps, .bool pcb, .slice pa phs.length pcap, .string px] 34
      have Y1 : Below y0.heap.size y0 (y0.alloc (.cells #[.int .i64 ps, .bool pcb, .slice pa phs.length pcap, .string px] 34)) := (Below.refl _ _).alloc (Nat.le_refl _) _
      have hA1 := PT.out.cA.lt
      have hag1 : y0.heap.size ≠ A := by omega
      have a8 := ((PT.out.cA.next Y1).cell 8).trans rfl
      have z1 := X1.cell 1
      have zf := X1.free 1
      simp only [List.getElem?_toArray, List.getElem?_cons_zero, List.getElem?_cons_succ, G.cfc] at a8 z1
      have X1h : Hid (Bk (y0.alloc (.cells #[.int .i64 ps, .bool pcb, .slice pa phs.length pcap, .string px] 34)) y0.heap.size #[.int .i64 ps, .bool pcb, .slice pa phs.length pcap, .string px] 34) := X1
      have Y1h : Hid (Below y0.heap.size y0 (y0.alloc (.cells #[.int .i64 ps, .bool pcb, .slice pa phs.length pcap, .string px] 34))) := Y1
      clear X1 Y1 d0 d1 d2 d3 hA1
      obtain ⟨pB, hpB⟩ : ∃ z, y0.heap.size = z := ⟨_, rfl⟩
      have HPB : Hid (y0.heap.size = pB) := hpB
      rw [hpB] at X1h zf z1 hag1 ⊢
      clear hpB
      obtain ⟨cc, hcc⟩ : ∃ z, (pcb && da) = z := ⟨_, rfl⟩
      have HCC : Hid ((pcb && da) = cc) := hcc
      clear hcc
      go_cut [] from 49 to 55 (fun wc => Bk wc pB #[.int .i64 ps, .bool cc, .slice pa phs.length pcap, .string px] 34 ∧ Below y0.heap.size y0 wc)
      case first =>
        cases pcb
        case false =>
          have hc := HCC.out
          simp only [Bool.false_and] at hc
          subst hc
          go_wp2_with fail
          go_meet
          refine ⟨?_, Y1h.out.trans ⟨rfl, rfl, rfl, by simp, fun j hj => Below.heap_setCell _ ⟨pB, 1, none⟩ _ j (by have := HPB.out; show j ≠ pB; omega)⟩⟩
          have := X1h.out.set 1 (.bool false)
          simp only [List.setIfInBounds_toArray, List.set_cons_succ, List.set_cons_zero] at this
          exact this
        case true =>
          have hc := HCC.out
          simp only [Bool.true_and] at hc
          subst hc
          go_wp2_with fail
          go_meet
          refine ⟨?_, Y1h.out.trans ⟨rfl, rfl, rfl, by simp, fun j hj => Below.heap_setCell _ ⟨pB, 1, none⟩ _ j (by have := HPB.out; show j ≠ pB; omega)⟩⟩
          have := X1h.out.set 1 (.bool da)
          simp only [List.setIfInBounds_toArray, List.set_cons_succ, List.set_cons_zero] at this
          exact this
      case rest =>
      obtain ⟨q0, q1⟩ := hcut
      have K1 : Hid (Bk wc pB #[.int .i64 ps, .bool cc, .slice pa phs.length pcap, .string px] 34) := q0
      have K2 : Hid (Below y0.heap.size y0 wc) := q1
      clear q0 q1 a8 z1 zf X1h Y1h
      have hcda : Hid (cc = true → da = true) := show _ from fun h => by
        have := HCC.out
        rw [h] at this
        simp at this
        exact this.2
      have dB := K1.out
      have d0 := (dB.cell 0).trans rfl
      have d1 := (dB.cell 1).trans rfl
      have d2 := (dB.cell 2).trans rfl
      have d3 := (dB.cell 3).trans rfl
      simp only [List.getElem?_toArray, List.getElem?_cons_zero, List.getElem?_cons_succ] at d0 d1 d2 d3
      clear dB
      have C1 := good_new ps cc pa pcap px phs wc HPR.out.1 HPR.out.2.1 (HPR.out.2.2.below (PT.out.bl.trans (K2.out.mono PT.out.bl.size)))
      have gdf := gd_ok ⟨ps, cc, phs, px⟩
      have gd6 := gd_len ⟨ps, cc, phs, px⟩
      have gdc : cc = (gd ⟨ps, cc, phs, px⟩).c := rfl
      have ge : (⟨md ps 4096, cc, gH cc phs, gx px⟩ : Pc) = gd ⟨ps, cc, phs, px⟩ := rfl
      rw [ge] at C1
      generalize gd ⟨ps, cc, phs, px⟩ = gg at *
      obtain ⟨gs, gc, ghs, gx9⟩ := gg
      simp only at gdc
      subst gdc
      have HGD : Hid (Pc.okB ⟨gs, cc, ghs, gx9⟩ = true ∧ 1 ≤ ghs.length ∧ ghs.length ≤ 6) := show _ ∧ _ ∧ _ from ⟨gdf, gd6⟩
      clear gdf gd6 ge
      unfold PcN at C1
      simp only [pcv, pcc] at C1
      obtain ⟨m, hm9⟩ : ∃ z, ghs.length = z := ⟨_, rfl⟩
      have HM : Hid (ghs.length = m) := hm9
      rw [hm9] at C1
      clear hm9
      have HA1 : Hid (A < y0.heap.size) := PT.out.cA.lt
      go_wp2_with fail
      go_at_call 9
      with_reducible refine C1.mono ?_
      rintro e v6 ⟨ha, hcap, rfl, x1, x2, x3, x4⟩
      obtain ⟨hb, ho, rfl⟩ : ∃ h o, ha = some ⟨h, o, none⟩ := x2.at0 (by rw [pc_len]; have := HGD.out; omega)
      obtain ⟨hh1, csH, tH, hB⟩ := x4 _ rfl
      have hh0 := HdAt.of x2 hB
      have hpl : pB < wc.heap.size := K1.out.lt
      have hw2 : y0.heap.size ≤ wc.heap.size := K2.out.size
      have K3 : Hid (Bk v6 pB #[.int .i64 ps, .bool cc, .slice pa phs.length pcap, .string px] 34 ∧ Below y0.heap.size y0 v6) := show _ ∧ _ from ⟨K1.out.next x3, K2.out.trans (x3.mono K2.out.size)⟩
      have HHB : Hid (Bk v6 hb csH tH ∧ HdAt csH ho ghs) := show _ ∧ _ from ⟨hB, hh0⟩
      have hne : ¬ hb = pB := by show ¬ hb = pB; have : wc.heap.size ≤ hb := hh1; omega
      have hne2 : ¬ pB = hb := fun c => hne c.symm
      have HWB : Hid (y0.heap.size ≤ hb ∧ m ≤ hcap) := show _ ∧ _ from ⟨Nat.le_trans hw2 hh1, x1⟩
      clear C1 x1 x2 x3 x4 hh1 hh0 hB hpl hw2 d0 d1 d2 d3 K1 K2
      have d0 := (K3.out.1.cell 0).trans rfl
      have d1 := (K3.out.1.cell 1).trans rfl
      have d2 := (K3.out.1.cell 2).trans rfl
      have d3 := (K3.out.1.cell 3).trans rfl
      have fd0 := K3.out.1.free 0
      have fd1 := K3.out.1.free 1
      have fd2 := K3.out.1.free 2
      have fd3 := K3.out.1.free 3
      simp only [List.getElem?_toArray, List.getElem?_cons_zero, List.getElem?_cons_succ] at d0 d1 d2 d3
      go_upto_region 15 with fail
      have K4 : Hid (Bk ((((v6.setCell ⟨pB, 0, none⟩ (.int .i64 gs)).setCell ⟨pB, 1, none⟩ (.bool cc)).setCell ⟨pB, 2, none⟩ (.slice (some ⟨hb, ho, none⟩) m hcap)).setCell ⟨pB, 3, none⟩ (.string gx9)) pB #[.int .i64 gs, .bool cc, .slice (some ⟨hb, ho, none⟩) m hcap, .string gx9] 34 ∧ Bk ((((v6.setCell ⟨pB, 0, none⟩ (.int .i64 gs)).setCell ⟨pB, 1, none⟩ (.bool cc)).setCell ⟨pB, 2, none⟩ (.slice (some ⟨hb, ho, none⟩) m hcap)).setCell ⟨pB, 3, none⟩ (.string gx9)) hb csH tH ∧ Below y0.heap.size y0 ((((v6.setCell ⟨pB, 0, none⟩ (.int .i64 gs)).setCell ⟨pB, 1, none⟩ (.bool cc)).setCell ⟨pB, 2, none⟩ (.slice (some ⟨hb, ho, none⟩) m hcap)).setCell ⟨pB, 3, none⟩ (.string gx9))) := show _ ∧ _ ∧ _ from by
        have hk : y0.heap.size ≤ pB := by rw [HPB.out]; exact Nat.le_refl _
        exact ⟨fourp_at K3.out.1, (((HHB.out.1.far hne).far hne).far hne).far hne, below_set (below_set (below_set (below_set K3.out.2 hk _ _) hk _ _) hk _ _) hk _ _⟩
      have HD0 : Hid (HdAt csH ho ghs) := HHB.out.2
      clear K3 HHB d0 d1 d2 d3 fd0 fd1 fd2 fd3
      generalize ((((v6.setCell ⟨pB, 0, none⟩ (.int .i64 gs)).setCell ⟨pB, 1, none⟩ (.bool cc)).setCell ⟨pB, 2, none⟩ (.slice (some ⟨hb, ho, none⟩) m hcap)).setCell ⟨pB, 3, none⟩ (.string gx9)) = v7 at *
      have d0 := (K4.out.1.cell 0).trans rfl
      have fd0 := K4.out.1.free 0
      simp only [List.getElem?_toArray, List.getElem?_cons_zero] at d0
      go_upto_region 16 with fail
      have K5 : Hid (Bk (v7.setCell ⟨pB, 0, none⟩ (.int .i64 nd)) pB #[.int .i64 nd, .bool cc, .slice (some ⟨hb, ho, none⟩) m hcap, .string gx9] 34 ∧ Bk (v7.setCell ⟨pB, 0, none⟩ (.int .i64 nd)) hb csH tH ∧ Below y0.heap.size y0 (v7.setCell ⟨pB, 0, none⟩ (.int .i64 nd))) := show _ ∧ _ ∧ _ from by
        have hk : y0.heap.size ≤ pB := by rw [HPB.out]; exact Nat.le_refl _
        have h1 := K4.out.1.set 0 (.int .i64 nd)
        simp only [List.setIfInBounds_toArray, List.set_cons_zero] at h1
        exact ⟨h1, K4.out.2.1.far hne, below_set K4.out.2.2 hk _ _⟩
      clear K4 d0 fd0
      generalize v7.setCell ⟨pB, 0, none⟩ (.int .i64 nd) = v8 at *
      go_upto_block 2 with fail
      go_cut [] from 60 to 79 (fun wc => ∃ csH' : Array Value, Bk wc pB #[.int .i64 nd, .bool cc, .slice (some ⟨hb, ho, none⟩) m hcap, .string gx9] 34 ∧ Bk wc hb csH' tH ∧ HdAt csH' ho (hdk ⟨dw, dh, dl, dd, dr, di, db, de, da⟩ ghs m) ∧ Below y0.heap.size y0 wc)
      case first =>
        go_wp2_with fail
        go_loopw [13] (fun z wr => ∃ (k : Nat) (cs' : Array Value), k ≤ m ∧ z = .int .i64 (k : Int) ∧ Bk wr pB #[.int .i64 nd, .bool cc, .slice (some ⟨hb, ho, none⟩) m hcap, .string gx9] 34 ∧ Bk wr hb cs' tH ∧ HdAt cs' ho (hdk ⟨dw, dh, dl, dd, dr, di, db, de, da⟩ ghs k) ∧ Below y0.heap.size y0 wr) (fun z _ => m - (RowKit.intOf z).toNat)
        case atStart => exact ⟨0, csH, Nat.zero_le _, rfl, K5.out.1, K5.out.2.1, by rw [hdk_zero]; exact HD0.out, K5.out.2.2⟩
        case round =>
          clear K5 HD0 csH
          obtain ⟨k, csH, hkm, rfl, kp, kh, kd, kb⟩ := hrel
          have KP : Hid (Bk wr pB #[.int .i64 nd, .bool cc, .slice (some ⟨hb, ho, none⟩) m hcap, .string gx9] 34) := kp
          have KH : Hid (Bk wr hb csH tH ∧ HdAt csH ho (hdk ⟨dw, dh, dl, dd, dr, di, db, de, da⟩ ghs k)) := show _ ∧ _ from ⟨kh, kd⟩
          have KB : Hid (Below y0.heap.size y0 wr) := kb
          clear kp kh kd kb
          have g4 : (0 : Int) ≤ (k : Int) := by omega
          have d2 := (KP.out.cell 2).trans rfl
          simp only [List.getElem?_toArray, List.getElem?_cons_zero, List.getElem?_cons_succ] at d2
          by_cases hlt : k < m
          case neg =>
            have e5 : k = m := by omega
            have g5 : ¬ (k : Int) < (m : Int) := by omega
            go_wp2_with fail
            go_meet
            exact ⟨csH, KP.out, KH.out.1, by rw [← e5]; exact KH.out.2, KB.out⟩
          have g5 : (k : Int) < (m : Int) := by omega
          have g6 : (m : Int) ≤ 6 := by have := HGD.out; have := HM.out; omega
          have HK : Hid (k < m) := hlt
          obtain ⟨u, q, huq⟩ : ∃ u q, ghs.getD k (0, 0) = (u, q) := ⟨_, _, rfl⟩
          have HUQ : Hid (ghs.getD k (0, 0) = (u, q)) := huq
          have hcu := (KH.out.2 k _ (hdk_here ⟨dw, dh, dl, dd, dr, di, db, de, da⟩ ghs (by rw [HM.out]; exact hlt))).1
          rw [huq] at hcu
          have HC : Hid (csH[ho + k * 2]? = some (.int .i64 u)) := hcu
          have KEY : Hid (∀ y, Below wr.heap.size wr y → (y.cell? ⟨pB, 2, none⟩ = some (.slice (some ⟨hb, ho, none⟩) m hcap) ∧ y.cell? ⟨hb, ho + k * 2, none⟩ = some (.int .i64 u)) ∧ Bk y A #[.int .i64 dw, .int .i64 dh, .int .i64 dl, .int .i64 dd, .int .i64 dr, .int .i64 di, .int .i64 db, .bool de, .bool da] 23) := show _ from fun y hy =>
            ⟨⟨((KP.out.next hy).cell 2).trans rfl, ((KH.out.1.next hy).cell (ho + k * 2)).trans HC.out⟩, ((PT.out.cA.next KB.out).next hy)⟩
          have D0 : Below wr.heap.size wr wr.drew := (Below.refl _ _).drew
          have T0 := show _ ∧ _ ∧ _ from ⟨(KEY.out _ D0).1.1, (KEY.out _ D0).1.2, ncfg (KEY.out _ D0).2⟩
          have ND := fun y => HNA.out u y
          obtain ⟨nv, hnv⟩ : ∃ z, G.nde ⟨dw, dh, dl, dd, dr, di, db, de, da⟩ u = z := ⟨_, rfl⟩
          rw [hnv] at ND
          have HNV : Hid (G.nde ⟨dw, dh, dl, dd, dr, di, db, de, da⟩ u = nv) := hnv
          clear hnv hcu huq
          go_upto_region 19 with fail
          clear d2
          refine wp_region_G (fun V => V.cell? ⟨pB, 2, none⟩ = some (.slice (some ⟨hb, ho, none⟩) m hcap) ∧ V.cell? ⟨hb, ho + k * 2, none⟩ = some (.int .i64 u) ∧ V.cell? ⟨A, 0, none⟩ = some (.int .i64 dw) ∧ V.cell? ⟨A, 1, none⟩ = some (.int .i64 dh) ∧ V.cell? ⟨A, 2, none⟩ = some (.int .i64 dl) ∧ V.cell? ⟨A, 3, none⟩ = some (.int .i64 dd) ∧ V.cell? ⟨A, 4, none⟩ = some (.int .i64 dr) ∧ V.cell? ⟨A, 5, none⟩ = some (.int .i64 di) ∧ V.cell? ⟨A, 6, none⟩ = some (.int .i64 db) ∧ V.cell? ⟨A, 7, none⟩ = some (.bool de) ∧ V.cell? ⟨A, 8, none⟩ = some (.bool da)) 13 (by kernel_rfl) ?_
          refine wpAnyG_take [1, 11, 12, 13] (some 67) (i := 0) (v := ?v0) rfl rfl (by kernel_rfl) (by kernel_rfl) (by kernel_rfl) (by kernel_rfl) (fun _ _ _ h => h) (Or.inl ⟨by rfl, ?y0⟩) T0 ?r0
          case y0 => (intro V hSV; obtain ⟨s0, s1, s2, s3, s4, s5, s6, s7, s8, s9, s10⟩ := hSV; go_simp; try with_reducible rfl)
          try simp only [Act.put, List.setIfInBounds_toArray, List.set_cons_zero, List.set_cons_succ]
          refine wpAnyG_take [11, 12, 13] (some 68) (i := 1) (v := ?v1) rfl rfl (by kernel_rfl) (by kernel_rfl) (by kernel_rfl) (by kernel_rfl) (fun _ _ _ h => h) (Or.inl ⟨by rfl, ?y1⟩) T0 ?r1
          case y1 => (intro V hSV; obtain ⟨s0, s1, s2, s3, s4, s5, s6, s7, s8, s9, s10⟩ := hSV; go_simp; try with_reducible rfl)
          try simp only [Act.put, List.setIfInBounds_toArray, List.set_cons_zero, List.set_cons_succ]
          refine wpAnyG_take [11, 12, 13] (some 69) (i := 2) (v := ?v2) rfl rfl (by kernel_rfl) (by kernel_rfl) (by kernel_rfl) (by kernel_rfl) (fun _ _ _ h => h) (Or.inl ⟨by rfl, ?y2⟩) T0 ?r2
          case y2 => (intro V hSV; obtain ⟨s0, s1, s2, s3, s4, s5, s6, s7, s8, s9, s10⟩ := hSV; go_simp; try with_reducible rfl)
          try simp only [Act.put, List.setIfInBounds_toArray, List.set_cons_zero, List.set_cons_succ]
          refine wpAnyG_take [10, 13] (some 70) (i := 3) (v := ?v3) rfl rfl (by kernel_rfl) (by kernel_rfl) (by kernel_rfl) (by kernel_rfl) (fun _ _ _ h => h) (Or.inl ⟨by rfl, ?y3⟩) T0 ?r3
          case y3 => (intro V hSV; obtain ⟨s0, s1, s2, s3, s4, s5, s6, s7, s8, s9, s10⟩ := hSV; go_simp; try with_reducible rfl)
          try simp only [Act.put, List.setIfInBounds_toArray, List.set_cons_zero, List.set_cons_succ]
          refine wpAnyG_take [5, 7, 8, 9, 10, 13] (some 71) (i := 4) (v := ?v4) rfl rfl (by kernel_rfl) (by kernel_rfl) (by kernel_rfl) (by kernel_rfl) (fun _ _ _ h => h) (Or.inl ⟨by rfl, ?y4⟩) T0 ?r4
          case y4 => (intro V hSV; obtain ⟨s0, s1, s2, s3, s4, s5, s6, s7, s8, s9, s10⟩ := hSV; go_simp; try with_reducible rfl)
          try simp only [Act.put, List.setIfInBounds_toArray, List.set_cons_zero, List.set_cons_succ]
          refine wpAnyG_take [7, 8, 9, 10, 13] (some 72) (i := 5) (v := ?v5) rfl rfl (by kernel_rfl) (by kernel_rfl) (by kernel_rfl) (by kernel_rfl) (fun _ _ _ h => h) (Or.inl ⟨by rfl, ?y5⟩) T0 ?r5
          case y5 => (intro V hSV; obtain ⟨s0, s1, s2, s3, s4, s5, s6, s7, s8, s9, s10⟩ := hSV; go_simp; try with_reducible rfl)
          try simp only [Act.put, List.setIfInBounds_toArray, List.set_cons_zero, List.set_cons_succ]
          refine wpAnyG_take [7, 8, 9, 10, 13] (some 73) (i := 6) (v := ?v6) rfl rfl (by kernel_rfl) (by kernel_rfl) (by kernel_rfl) (by kernel_rfl) (fun _ _ _ h => h) (Or.inl ⟨by rfl, ?y6⟩) T0 ?r6
          case y6 => (intro V hSV; obtain ⟨s0, s1, s2, s3, s4, s5, s6, s7, s8, s9, s10⟩ := hSV; go_simp; try with_reducible rfl)
          try simp only [Act.put, List.setIfInBounds_toArray, List.set_cons_zero, List.set_cons_succ]
          refine wpAnyG_take [8, 9, 10, 13] (some 74) (i := 7) (v := ?v7) rfl rfl (by kernel_rfl) (by kernel_rfl) (by kernel_rfl) (by kernel_rfl) (fun _ _ _ h => h) (Or.inl ⟨by rfl, ?y7⟩) T0 ?r7
          case y7 => (intro V hSV; obtain ⟨s0, s1, s2, s3, s4, s5, s6, s7, s8, s9, s10⟩ := hSV; go_simp; try with_reducible rfl)
          try simp only [Act.put, List.setIfInBounds_toArray, List.set_cons_zero, List.set_cons_succ]
          refine wpAnyG_take [9, 10, 13] (some 75) (i := 8) (v := ?v8) rfl rfl (by kernel_rfl) (by kernel_rfl) (by kernel_rfl) (by kernel_rfl) (fun _ _ _ h => h) (Or.inl ⟨by rfl, ?y8⟩) T0 ?r8
          case y8 => (intro V hSV; obtain ⟨s0, s1, s2, s3, s4, s5, s6, s7, s8, s9, s10⟩ := hSV; go_simp; try with_reducible rfl)
          try simp only [Act.put, List.setIfInBounds_toArray, List.set_cons_zero, List.set_cons_succ]
          refine wpAnyG_take [10, 13] (some 76) (i := 9) (v := ?v9) rfl rfl (by kernel_rfl) (by kernel_rfl) (by kernel_rfl) (by kernel_rfl) (fun _ _ _ h => h) (Or.inl ⟨by rfl, ?y9⟩) T0 ?r9
          case y9 => (intro V hSV; obtain ⟨s0, s1, s2, s3, s4, s5, s6, s7, s8, s9, s10⟩ := hSV; go_simp; try with_reducible rfl)
          try simp only [Act.put, List.setIfInBounds_toArray, List.set_cons_zero, List.set_cons_succ]
          refine wpAnyG_one (i := 10) (by kernel_rfl) rfl (fun K hK => ?_)
          go_simp
          with_reducible refine (ND _).mono ?_
          rintro e v9 ⟨rfl, b9⟩
          have D1 : Below wr.heap.size wr v9 := D0.trans (b9.mono D0.size)
          have T1 := show _ ∧ _ ∧ _ from ⟨(KEY.out _ D1).1.1, (KEY.out _ D1).1.2, ncfg (KEY.out _ D1).2⟩
          clear b9
          refine hK.out _ _ (Or.inr T1) ?_
          clear hK K
          try simp only [Act.put, List.setIfInBounds_toArray, List.set_cons_zero, List.set_cons_succ]
          refine wpAnyG_take [12, 13] (some 78) (i := 11) (v := ?v11) rfl rfl (by kernel_rfl) (by kernel_rfl) (by kernel_rfl) (by kernel_rfl) (fun _ _ _ h => h) (Or.inl ⟨by rfl, ?y11⟩) T1 ?r11
          case y11 => (intro V hSV; obtain ⟨s0, s1, s2, s3, s4, s5, s6, s7, s8, s9, s10⟩ := hSV; go_simp; try with_reducible rfl)
          try simp only [Act.put, List.setIfInBounds_toArray, List.set_cons_zero, List.set_cons_succ]
          refine wpAnyG_take [13] (some 79) (i := 12) (v := ?v12) rfl rfl (by kernel_rfl) (by kernel_rfl) (by kernel_rfl) (by kernel_rfl) (fun _ _ _ h => h) (Or.inl ⟨by rfl, ?y12⟩) T1 ?r12
          case y12 => (intro V hSV; obtain ⟨s0, s1, s2, s3, s4, s5, s6, s7, s8, s9, s10⟩ := hSV; go_simp; try with_reducible rfl)
          try simp only [Act.put, List.setIfInBounds_toArray, List.set_cons_zero, List.set_cons_succ]
          have zf := (KH.out.1.next D1).free (ho + k * 2)
          have zc := (KEY.out _ D1).1.2
          have R10 : Hid (Bk (v9.setCell ⟨hb, ho + k * 2, none⟩ (.int .i64 nv)) pB #[.int .i64 nd, .bool cc, .slice (some ⟨hb, ho, none⟩) m hcap, .string gx9] 34 ∧ Bk (v9.setCell ⟨hb, ho + k * 2, none⟩ (.int .i64 nv)) hb (csH.setIfInBounds (ho + k * 2) (.int .i64 nv)) tH ∧ HdAt (csH.setIfInBounds (ho + k * 2) (.int .i64 nv)) ho (hdk ⟨dw, dh, dl, dd, dr, di, db, de, da⟩ ghs (k + 1)) ∧ Below y0.heap.size y0 (v9.setCell ⟨hb, ho + k * 2, none⟩ (.int .i64 nv))) := show _ ∧ _ ∧ _ ∧ _ from by
            have h3 := KH.out.2.step (by rw [HM.out]; exact HK.out)
            rw [HUQ.out] at h3
            simp only at h3
            rw [HNV.out] at h3
            exact ⟨(KP.out.next D1).far hne2, (KH.out.1.next D1).set _ _, h3, below_set (KB.out.trans (D1.mono KB.out.size)) HWB.out.1 _ _⟩
          clear KP KH KB KEY
          refine wpAnyG_one (i := 13) (by kernel_rfl) rfl (fun K hK => ?_)
          go_simp
          refine hK.out _ _ (Or.inl (by kernel_rfl)) ?_
          clear hK K
          try simp only [Act.put, List.setIfInBounds_toArray, List.set_cons_zero, List.set_cons_succ]
          refine wpAnyG_done (by kernel_rfl) ?_ _
          clear T0 T1 zf zc D0 D1 ND
          generalize v9.setCell ⟨hb, ho + k * 2, none⟩ (.int .i64 nv) = v10 at *
          go_wp2_with fail
          go_roundw
          case rel => exact ⟨k + 1, _, HK.out, by go_num, R10.out.1, R10.out.2.1, R10.out.2.2.1, R10.out.2.2.2⟩
          case measure => simp [RowKit.intOf]; omega
      case rest =>
      obtain ⟨csH', r1, r2, r3, r4⟩ := hcut
      clear K5 HD0
      have hi0 : (0 : Int) ≤ (i : Int) := by omega
      obtain ⟨o1, o2, o3, o4, o5⟩ := puts_ok FT.out NC.out.1 NC.out.2 HGD.out.1 hcda.out HND.out (i : Int) ((wdl es).length : Int) hi0
      simp only at o1 o2 o3 o4 o5
      rw [HM.out] at o1 o2 o4 o5
      have hl2 : (hdk ⟨dw, dh, dl, dd, dr, di, db, de, da⟩ ghs m).length = m := (hdk_len _ _ _).trans HM.out
      obtain ⟨hs2, hhs2⟩ : ∃ z, hdk ⟨dw, dh, dl, dd, dr, di, db, de, da⟩ ghs m = z := ⟨_, rfl⟩
      rw [hhs2] at o1 o2 o4 o5 hl2 r3
      have HS2 : Hid (hs2.length = m ∧ 1 ≤ m ∧ m ≤ 6) := show _ ∧ _ ∧ _ from ⟨hl2, by have := HGD.out; have := HM.out; omega, by have := HGD.out; have := HM.out; omega⟩
      have HX64 : Hid (gx9.size ≤ 64 ∧ gx9.size ≤ maxLen) := show _ ∧ _ from by
        obtain ⟨-, -, ok3, -⟩ := (ok_iff _).1 HGD.out.1
        simp only at ok3
        exact ⟨ok3, by unfold maxLen; omega⟩
      have HOQ : Hid (Pc.okB ⟨nd, cc, hs2, gx9⟩ = true) := o1
      obtain ⟨WS, hWS⟩ : ∃ z, Pc.ws ⟨nd, cc, hs2, gx9⟩ = z := ⟨_, rfl⟩
      have HWS : Hid (Pc.ws ⟨nd, cc, hs2, gx9⟩ = WS) := hWS
      have HWL : Hid (1 ≤ WS.length ∧ WS.length ≤ 17) := show _ ∧ _ from by
        rw [← HWS.out, ws_len]
        have h64 := HX64.out.1
        have h6 := HS2.out
        show 1 ≤ hs2.length + (nb gx9.size + 1) ∧ hs2.length + (nb gx9.size + 1) ≤ 17
        unfold nb
        omega
      obtain ⟨ln, hln⟩ : ∃ z, lnR ⟨⟨dw, dh, dl, dd, dr, di, db, de, da⟩, nd, (i : Int), ((wdl es).length : Int)⟩ ⟨nd, cc, hs2, gx9⟩ = z := ⟨_, rfl⟩
      rw [hln] at o4 o5
      have HEN : Hid (enOk ⟨dw, dh, dl, dd, dr, di, db, de, da⟩ ⟨ln, WS, cc⟩) := show _ from ⟨HWL.out.1, HWL.out.2, o4, o5, o3⟩
      have R1 : Hid (Bk wc pB #[.int .i64 nd, .bool cc, .slice (some ⟨hb, ho, none⟩) m hcap, .string gx9] 34 ∧ Bk wc hb csH' tH ∧ HdAt csH' ho hs2 ∧ Below y0.heap.size y0 wc) := show _ ∧ _ ∧ _ ∧ _ from ⟨r1, r2, r3, r4⟩
      have hwd := wdl_few HES.out.2
      rw [HES.out.1] at hwd
      have hi8 := HI.out.2
      have CSD : Hid (∀ y a' cap', Below wc.heap.size wc y → Rd y a' (pc hs2) → Calls Tryz.prog 10 #[.pointer (some ⟨b, 0, none⟩), .agg #[.int .i64 nd, .bool cc, .slice a' m cap', .string gx9]] y fun e v' => e = .returned (.int .i64 0) ∧ ∃ cu' H', Pt w v' A b ib ⟨dw, dh, dl, dd, dr, di, db, de, da⟩ ⟨⟨dw, dh, dl, dd, dr, di, db, de, da⟩, nd, (i : Int) + 1, ((wdl es).length : Int) + (WS.length : Int)⟩ cu' J BB (lns es ++ [(ln, WS)]) H' u8 u9 u10 (wdl es) (ftl es) (csl es) ∧ y.heap.size ≤ v'.heap.size ∧ ∀ g, y0.heap.size ≤ g → g < y.heap.size → v'.heap[g]? = y.heap[g]?) := show _ from fun y a' cap' hy hrd => by
        have hpt := (PT.out.next R1.out.2.2.2).next hy
        have hc := nic_send hpt.nb hpt.sn ⟨nd, cc, hs2, gx9⟩ a' cap' (by have := HS2.out; show hs2.length ≤ _; omega) HX64.out.2 hrd o2 o3 ⟨by show (0 : Int) ≤ (i : Int); omega, by show (i : Int) ≤ 1000000; omega⟩ ⟨by show (0 : Int) ≤ ((wdl es).length : Int); omega, by show ((wdl es).length : Int) ≤ 1000000; omega⟩ (by rw [HWS.out]; exact HWL.out.1) (by rw [HWS.out]; have := HWL.out.2; omega) hpt.o3 hpt.o4 (by have := HES.out.1; unfold lns; rw [List.length_map]; omega)
        simp only [pcv, pcc] at hc
        rw [hl2, hWS, hln] at hc
        refine hc.mono ?_
        rintro e v' ⟨rfl, cu', h1, h2, h3⟩
        refine ⟨rfl, cu', _, hpt.send h3 h1 h2, h3.size, fun g hg1 hg2 => h3.block g hg2 ?_⟩
        rintro (e | e)
        · have := PT.out.o3; have := PT.out.o4; omega
        · obtain ⟨⟨cells, hc, -⟩, -⟩ := PT.out.sn
          have := (hc.lt e).2
          omega
      have CB := nback_any nd cc (some ⟨hb, ho, none⟩) hcap gx9 hs2 wc (by have := HS2.out; omega) (R1.out.2.2.1.rd R1.out.2.1)
      unfold PcR at CB
      simp only [pcv, pcc] at CB
      rw [hl2] at CB
      clear r1 r2 r3 r4 o1 o2 o3 o4 o5 hl2 hhs2 hWS hln hwd hi8 HGD HM hcda HNA
      have d0 := (R1.out.1.cell 0).trans rfl
      have d1 := (R1.out.1.cell 1).trans rfl
      have d2 := (R1.out.1.cell 2).trans rfl
      have d3 := (R1.out.1.cell 3).trans rfl
      simp only [List.getElem?_toArray, List.getElem?_cons_zero, List.getElem?_cons_succ] at d0 d1 d2 d3
      go_wp2_with fail
      go_at_call 11
      with_reducible refine CB.mono ?_
      rintro e v11 ⟨a11, cap11, rfl, -, x2, x3⟩
      have C1 := CSD.out v11 a11 cap11 x3 x2
      have R2 : Hid (Bk v11 pB #[.int .i64 nd, .bool cc, .slice (some ⟨hb, ho, none⟩) m hcap, .string gx9] 34 ∧ Bk v11 hb csH' tH) := show _ ∧ _ from ⟨R1.out.1.next x3, R1.out.2.1.next x3⟩
      clear CB CSD x2 x3 d0 d1 d2 d3
      go_upto_region 22 with (go_at_call 10; with_reducible refine C1.mono ?_; rintro e v12 ⟨rfl, cu', H', p12, z12, k12⟩)
      have P12 : Hid (Pt w v12 A b ib ⟨dw, dh, dl, dd, dr, di, db, de, da⟩ ⟨⟨dw, dh, dl, dd, dr, di, db, de, da⟩, nd, (i : Int) + 1, ((wdl es).length : Int) + (WS.length : Int)⟩ cu' J BB (lns es ++ [(ln, WS)]) H' u8 u9 u10 (wdl es) (ftl es) (csl es)) := p12
      have R3 : Hid (Bk v12 pB #[.int .i64 nd, .bool cc, .slice (some ⟨hb, ho, none⟩) m hcap, .string gx9] 34 ∧ Bk v12 hb csH' tH) := show _ ∧ _ from by
        obtain ⟨h1, h2⟩ := R2.out
        refine ⟨?_, ?_⟩
        · have := k12 pB (by rw [HPB.out]; exact Nat.le_refl _) h1.lt
          unfold Bk at h1 ⊢
          rw [this]
          exact h1
        · have := k12 hb HWB.out.1 h2.lt
          unfold Bk at h2 ⊢
          rw [this]
          exact h2
      clear p12 z12 k12 C1 R2
      have d0 := (R3.out.1.cell 0).trans rfl
      have d1 := (R3.out.1.cell 1).trans rfl
      have d2 := (R3.out.1.cell 2).trans rfl
      have d3 := (R3.out.1.cell 3).trans rfl
      simp only [List.getElem?_toArray, List.getElem?_cons_zero, List.getElem?_cons_succ] at d0 d1 d2 d3
      have C1 := rwords_new nd cc (some ⟨hb, ho, none⟩) hcap gx9 hs2 v12 (by have := HS2.out; omega) HX64.out.2 (R1.out.2.2.1.rd R3.out.2)
      rw [wordsR_ok HOQ.out, HWS.out] at C1
      simp only [pcv, pcc] at C1
      rw [HS2.out.1] at C1
      go_upto_region 23 with (go_at_call 12; with_reducible refine C1.mono ?_; rintro e v13 ⟨aw, capw, rfl, wl, wr9, b13, wq⟩)
      obtain ⟨wb, wo, rfl⟩ : ∃ h o, aw = some ⟨h, o, none⟩ := wr9.at0 (by rw [vw_len]; exact HWL.out.1)
      have hwb := wq _ rfl
      have hwb2 : wb < v13.heap.size := by
        obtain ⟨g9, o9, e9, hg9, _⟩ := wr9 0 ((vw WS).getD 0 (.int .u64 0)) (by rw [List.getD_eq_getElem?_getD, List.getElem?_eq_getElem (by rw [vw_len]; exact HWL.out.1)]; rfl)
        simp only [Option.some.injEq, Addr.mk.injEq] at e9
        rw [e9.1]
        exact hg9
      have P13 : Hid (Pt w v13 A b ib ⟨dw, dh, dl, dd, dr, di, db, de, da⟩ ⟨⟨dw, dh, dl, dd, dr, di, db, de, da⟩, nd, (i : Int) + 1, ((wdl es).length : Int) + (WS.length : Int)⟩ cu' J BB (lns es ++ [(ln, WS)]) (fun k => H' k ∨ k = wb) u8 u9 u10 (wdl es) (ftl es) (csl es)) := P12.out.more b13 hwb hwb2
      have R4 : Hid (Bk v13 pB #[.int .i64 nd, .bool cc, .slice (some ⟨hb, ho, none⟩) m hcap, .string gx9] 34 ∧ Rd v13 (some ⟨wb, wo, none⟩) (vw WS)) := show _ ∧ _ from ⟨R3.out.1.next b13, wr9⟩
      obtain ⟨nw, hnw⟩ : ∃ z, WS.length = z := ⟨_, rfl⟩
      have HNW : Hid (WS.length = nw ∧ 1 ≤ nw ∧ nw ≤ 17) := show _ ∧ _ ∧ _ from ⟨hnw, by have := HWL.out; omega, by have := HWL.out; omega⟩
      rw [hnw] at P13 wl ⊢
      have HCW : Hid (nw ≤ capw) := wl
      clear C1 d0 d1 d2 d3 P12 R3 R1 PT wr9 hwb hwb2 b13 wq wl hnw HWB HPB HA1
      go_wp2_with fail
      go_loopw [8, 9, 10, 16] (fun z8 z9 z10 z wr => ∃ j : Nat, j ≤ nw ∧ z = .int .i64 (j : Int) ∧ Pt w wr A b ib ⟨dw, dh, dl, dd, dr, di, db, de, da⟩ ⟨⟨dw, dh, dl, dd, dr, di, db, de, da⟩, nd, (i : Int) + 1, ((wdl es).length : Int) + (nw : Int)⟩ cu' J BB (lns es ++ [(ln, WS)]) (fun k => H' k ∨ k = wb) z8 z9 z10 (wdl es ++ WS.take j) (ftl es ++ (fst0 nw).take j) (csl es ++ List.replicate j cc) ∧ Bk wr pB #[.int .i64 nd, .bool cc, .slice (some ⟨hb, ho, none⟩) m hcap, .string gx9] 34 ∧ Rd wr (some ⟨wb, wo, none⟩) (vw WS)) (fun _ _ _ z _ => nw - (RowKit.intOf z).toNat)
      case atStart => exact ⟨0, Nat.zero_le _, rfl, by simpa using P13.out, R4.out.1, R4.out.2⟩
      case round =>
        clear P13 R4
        obtain ⟨j, hj, rfl, pj, kj, rj⟩ := hrel
        have HH : Hid (∃ H2 : Nat → Prop, (∀ k, H2 k ↔ (H' k ∨ k = wb))) := show _ from ⟨_, fun _ => Iff.rfl⟩
        have PJ : Hid (Pt w wr A b ib ⟨dw, dh, dl, dd, dr, di, db, de, da⟩ ⟨⟨dw, dh, dl, dd, dr, di, db, de, da⟩, nd, (i : Int) + 1, ((wdl es).length : Int) + (nw : Int)⟩ cu' J BB (lns es ++ [(ln, WS)]) (fun k => H' k ∨ k = wb) _ _ _ (wdl es ++ WS.take j) (ftl es ++ (fst0 nw).take j) (csl es ++ List.replicate j cc)) := pj
        have KJ : Hid (Bk wr pB #[.int .i64 nd, .bool cc, .slice (some ⟨hb, ho, none⟩) m hcap, .string gx9] 34 ∧ Rd wr (some ⟨wb, wo, none⟩) (vw WS)) := show _ ∧ _ from ⟨kj, rj⟩
        clear pj kj rj HH
        have g4 : (0 : Int) ≤ (j : Int) := by omega
        by_cases hlt : j < nw
        case neg =>
          have e5 : Hid (j = nw) := (show j = nw by omega)
          have g5 : ¬ (j : Int) < (nw : Int) := by omega
          have g6 : (i : Int) < 8 := by have := HI.out; omega
          have g7 : (0 : Int) ≤ (i : Int) := by omega
          go_wp2_with fail
          go_roundw
          have pj := PJ.out
          rw [e5.out] at pj
          have e1 : WS.take nw = WS := by rw [← HNW.out.1]; exact List.take_length
          have e2 : (fst0 nw).take nw = fst0 nw := List.take_of_length_le (by unfold fst0; simp)
          have e7 : (((wdl es ++ WS).length : Nat) : Int) = ((wdl es).length : Int) + (nw : Int) := by rw [List.length_append, HNW.out.1]; push_cast; rfl
          have e8 : ((i + 1 : Nat) : Int) = (i : Int) + 1 := by push_cast; rfl
          rw [e1, e2] at pj
          have pj2 : Pt w wr A b ib ⟨dw, dh, dl, dd, dr, di, db, de, da⟩ ⟨⟨dw, dh, dl, dd, dr, di, db, de, da⟩, nd, ((i + 1 : Nat) : Int), ((wdl (es ++ [⟨ln, WS, cc⟩])).length : Int)⟩ cu' J BB (lns (es ++ [⟨ln, WS, cc⟩])) (fun k => H' k ∨ k = wb) u8 u9 u10 (wdl (es ++ [⟨ln, WS, cc⟩])) (ftl (es ++ [⟨ln, WS, cc⟩])) (csl (es ++ [⟨ln, WS, cc⟩])) := by
            rw [lns_snoc, wdl_snoc, ftl_snoc, csl_snoc]
            dsimp only
            rw [e7, e8, HNW.out.1]
            exact pj
          case rel => exact ⟨i + 1, cu', es ++ [⟨ln, WS, cc⟩], _, by have := HI.out; omega, by have := HI.out; omega, by go_num, by rw [List.length_append, HES.out.1]; rfl, fun y hy => by
            rcases List.mem_append.1 hy with h | h
            · exact HES.out.2 y h
            · rw [List.mem_singleton.1 h]; exact HEN.out, pj2⟩
          case measure => simp [RowKit.intOf]; omega
        have g5 : (j : Int) < (nw : Int) := by omega
        have g6 : (nw : Int) ≤ 17 := by have := HNW.out; omega
        have HJ : Hid (j < nw) := hlt
        obtain ⟨i0, ki, hz0, hz1, hz2⟩ := info_parts Tryz.info46
        obtain ⟨x, hx⟩ : ∃ x, WS[j]? = some x := ⟨_, List.getElem?_eq_getElem (by rw [HNW.out.1]; exact hlt)⟩
        have HX : Hid (WS[j]? = some x) := hx
        obtain ⟨gq, oq, eq1, hgq, hcq⟩ := KJ.out.2 j (.int .u64 (x : Int)) (by unfold vw; rw [List.getElem?_map, hx]; rfl)
        cases eq1
        have own8 := PJ.out.r8
        have hl8 : (wdl es ++ WS.take j).length ≤ 1000000 := by
          have h1 := wdl_few HES.out.2
          rw [HES.out.1] at h1
          have h2 := HI.out.2
          have h3 := HNW.out
          rw [List.length_append, List.length_take]
          omega
        have hb8 := PJ.out.o4
        have one8 : ∀ u ∈ [Value.int .u64 (x : Int)], u.oneCell' = true := fun u hu => by rw [List.mem_singleton.1 hu]; rfl
        go_upto_region 27 with (at_builtin; go_loud (refine wpList_app_at rfl (.tmp 96) (.tmp 101) 30 46 i0 (.int .u64 0) 1 8 rfl Tryz.underlying30 ki hz0 hz1 hz2 rfl (by decide) (by decide) BB wr u8 _ _ [.int .u64 (x : Int)] rfl own8 rfl rfl one8 hl8 hb8 ?_; intro z8 w1 q1 q2 q3))
        have P1 : Hid (Pt w w1 A b ib ⟨dw, dh, dl, dd, dr, di, db, de, da⟩ ⟨⟨dw, dh, dl, dd, dr, di, db, de, da⟩, nd, (i : Int) + 1, ((wdl es).length : Int) + (nw : Int)⟩ cu' J BB (lns es ++ [(ln, WS)]) (fun k => H' k ∨ k = wb) z8 u9 u10 (wdl es ++ WS.take j ++ [x]) (ftl es ++ (fst0 nw).take j) (csl es ++ List.replicate j cc)) := show _ from (PJ.out.next ((Below.refl _ _).alloc (Nat.le_refl _) _)).app8 q2 q1 q3
        have K1 : Hid (Bk w1 pB #[.int .i64 nd, .bool cc, .slice (some ⟨hb, ho, none⟩) m hcap, .string gx9] 34 ∧ Rd w1 (some ⟨wb, wo, none⟩) (vw WS)) := show _ ∧ _ from
          ⟨(KJ.out.1.alloc _).kept q2 (own8.ne KJ.out.1 (by decide)), rd_grown (KJ.out.2.alloc _) q2 fun e => PJ.out.d8 _ e (Or.inr rfl)⟩
        clear PJ KJ own8 hl8 hb8 one8 q1 q2 q3 hgq hcq hx i0 ki hz0 hz1 hz2
        obtain ⟨i0, ki, hz0, hz1, hz2⟩ := info_parts info4b
        have own9 := P1.out.r9
        have hl9 : (ftl es ++ (fst0 nw).take j).length ≤ 1000000 := by
          have h1 := wdl_few HES.out.2
          rw [HES.out.1] at h1
          have h2 := HI.out.2
          have h3 := HNW.out
          have h4 := (wdl_len es).1
          rw [List.length_append, List.length_take]
          omega
        have hb9 := P1.out.o4
        go_upto_region 28 with (at_builtin; go_loud (refine wpList_app_at rfl (.tmp 103) (.tmp 106) 31 4 i0 (.bool false) 1 1 rfl Tryz.underlying31 ki hz0 hz1 hz2 rfl (by decide) (by decide) BB w1 u9 _ _ [.bool ((j : Int) == 0)] rfl own9 rfl rfl (fun u hu => by rw [List.mem_singleton.1 hu]; rfl) hl9 hb9 ?_; intro z9 w2 q1 q2 q3))
        have P2 : Hid (Pt w w2 A b ib ⟨dw, dh, dl, dd, dr, di, db, de, da⟩ ⟨⟨dw, dh, dl, dd, dr, di, db, de, da⟩, nd, (i : Int) + 1, ((wdl es).length : Int) + (nw : Int)⟩ cu' J BB (lns es ++ [(ln, WS)]) (fun k => H' k ∨ k = wb) z8 z9 u10 (wdl es ++ WS.take j ++ [x]) (ftl es ++ (fst0 nw).take j ++ [((j : Int) == 0)]) (csl es ++ List.replicate j cc)) := show _ from (P1.out.next ((Below.refl _ _).alloc (Nat.le_refl _) _)).app9 q2 q1 q3
        have K2 : Hid (Bk w2 pB #[.int .i64 nd, .bool cc, .slice (some ⟨hb, ho, none⟩) m hcap, .string gx9] 34 ∧ Rd w2 (some ⟨wb, wo, none⟩) (vw WS)) := show _ ∧ _ from
          ⟨(K1.out.1.alloc _).kept q2 (own9.ne K1.out.1 (by decide)), rd_grown (K1.out.2.alloc _) q2 fun e => P1.out.d9 _ e (Or.inr rfl)⟩
        clear P1 K1 own9 hl9 hb9 q1 q2 q3
        have owna := P2.out.ra
        have hla : (csl es ++ List.replicate j cc).length ≤ 1000000 := by
          have h1 := wdl_few HES.out.2
          rw [HES.out.1] at h1
          have h2 := HI.out.2
          have h3 := HNW.out
          have h4 := (wdl_len es).2
          rw [List.length_append, List.length_replicate]
          omega
        have hba := P2.out.o4
        have d1 := (K2.out.1.cell 1).trans rfl
        simp only [List.getElem?_toArray, List.getElem?_cons_zero, List.getElem?_cons_succ] at d1
        have hzr : (fst0 nw).take j ++ [((j : Int) == 0)] = (fst0 nw).take (j + 1) := fst0_take HJ.out
        have hzw : WS.take j ++ [x] = WS.take (j + 1) := by rw [List.take_add_one, HX.out]; rfl
        have hzc : List.replicate j cc ++ [cc] = List.replicate (j + 1) cc := List.replicate_succ'.symm
        go_wp2_with (at_builtin; go_loud (refine wpList_app_at rfl (.tmp 108) (.tmp 111) 31 4 i0 (.bool false) 1 1 rfl Tryz.underlying31 ki hz0 hz1 hz2 rfl (by decide) (by decide) BB w2 u10 _ _ [.bool cc] rfl owna rfl rfl (fun u hu => by rw [List.mem_singleton.1 hu]; rfl) hla hba ?_; intro za w3 q1 q2 q3))
        have P3 := (P2.out.next ((Below.refl _ _).alloc (Nat.le_refl _) _)).appa q2 q1 q3
        rw [List.append_assoc, List.append_assoc, List.append_assoc, hzr, hzw, hzc] at P3
        have K3 : Bk w3 pB #[.int .i64 nd, .bool cc, .slice (some ⟨hb, ho, none⟩) m hcap, .string gx9] 34 ∧ Rd w3 (some ⟨wb, wo, none⟩) (vw WS) :=
          ⟨(K2.out.1.alloc _).kept q2 (owna.ne K2.out.1 (by decide)), rd_grown (K2.out.2.alloc _) q2 fun e => P2.out.da _ e (Or.inr rfl)⟩
        go_roundw
        case rel => exact ⟨j + 1, HJ.out, by go_num, P3, K3.1, K3.2⟩
        case measure => simp [RowKit.intOf]; omega
  case rest =>
  clear P5 HNA HPS HN
  obtain ⟨N, cu, es, H, hN8, hes, hen, pt⟩ := hcut
  have HES : Hid (N ≤ 8 ∧ es.length = N ∧ ∀ y ∈ es, enOk ⟨dw, dh, dl, dd, dr, di, db, de, da⟩ y) := show _ ∧ _ ∧ _ from ⟨hN8, hes, hen⟩
  have hM17 := wdl_few hen
  rw [hes] at hM17
  obtain ⟨g, a8, c8, a9, c9, aa, ca9, rfl, rfl, rfl, hcap, qt⟩ := pt.qt
  obtain ⟨M, hMM⟩ : ∃ z, (wdl es).length = z := ⟨_, rfl⟩
  have HM : Hid ((wdl es).length = M ∧ M ≤ 136) := show _ ∧ _ from ⟨hMM, by omega⟩
  rw [(wdl_len es).1, (wdl_len es).2] at hcap
  rw [(wdl_len es).1, (wdl_len es).2]
  rw [hMM] at qt hcap ⊢
  have Q0 : Hid (Qt w wc A b ib ⟨dw, dh, dl, dd, dr, di, db, de, da⟩ ⟨⟨dw, dh, dl, dd, dr, di, db, de, da⟩, nd, (N : Int), (M : Int)⟩ J wc.heap.size g (lns es) a8 a9 aa es) := qt
  have HCP : Hid (M ≤ c8 ∧ M ≤ c9 ∧ M ≤ ca9) := hcap
  obtain ⟨BV, hBV⟩ : ∃ z, wc.heap.size = z := ⟨_, rfl⟩
  rw [hBV] at Q0
  clear hBV qt pt hcap hMM hM17 hes hen hN8
  go_wp2_with fail
  go_loopw [17, 18] (fun z17 z18 wr => ∃ (k j : Nat) (e1 R : List En) (lane : Int), es = e1 ++ R ∧ k = (wdl e1).length + j ∧ rok R j lane ∧ k ≤ M ∧ z17 = .int .i64 lane ∧ z18 = .int .i64 (k : Int) ∧ Qt w wr A b ib ⟨dw, dh, dl, dd, dr, di, db, de, da⟩ ⟨⟨dw, dh, dl, dd, dr, di, db, de, da⟩, nd, (N : Int), (M : Int) - (k : Int)⟩ J BV g (rem R j) a8 a9 aa es) (fun _ z _ => M - (RowKit.intOf z).toNat)
  case atStart => exact ⟨0, 0, [], es, 0, rfl, rfl, rok_zero HES.out.2.2 0, Nat.zero_le _, rfl, rfl, by
    have e0 : (M : Int) - ((0 : Nat) : Int) = (M : Int) := by omega
    rw [rem_zero, e0]
    exact Q0.out⟩
  case round =>
    clear Q0
    obtain ⟨k, j, e1, R, lane, hes, hk, hrk, hkM, rfl, rfl, qt⟩ := hrel
    have QT : Hid (Qt w wr A b ib ⟨dw, dh, dl, dd, dr, di, db, de, da⟩ ⟨⟨dw, dh, dl, dd, dr, di, db, de, da⟩, nd, (N : Int), (M : Int) - (k : Int)⟩ J BV g (rem R j) a8 a9 aa es) := qt
    clear qt
    have g3 : (0 : Int) ≤ (k : Int) := by omega
    by_cases hlt : k < M
    case neg =>
      have q0 := QT.out
      rw [show (M : Int) - (k : Int) = 0 by omega] at q0
      have g5 : ¬ (k : Int) < (M : Int) := by omega
      clear QT hes hk hrk
      obtain ⟨cu9, nb9, -⟩ := q0.nb
      have CP := put_empty nb9 rfl
      simp only [zcell] at CP
      have HQ : Hid (Qt w wr A b ib ⟨dw, dh, dl, dd, dr, di, db, de, da⟩ ⟨⟨dw, dh, dl, dd, dr, di, db, de, da⟩, nd, (N : Int), 0⟩ J BV g (rem R j) a8 a9 aa es) := q0
      clear q0 nb9
      go_upto_region 40 with (go_at_call 13; with_reducible refine CP.mono ?_; rintro e v1 ⟨rfl, b1⟩)
      have q1 := (HQ.out.next b1).next ((Below.refl _ _).alloc (Nat.le_refl _) (.cells #[.int .i64 0, .int .u64 0] 48))
      clear CP b1
      generalize v1.alloc (.cells #[.int .i64 0, .int .u64 0] 48) = v2 at *
      obtain ⟨cu8, nb8, -⟩ := q1.nb
      have CL := left_any nb8
      simp only at CL
      go_wp2_with (go_at_call 15; with_reducible refine CL.mono ?_; rintro e v3 ⟨rfl, rfl⟩)
      go_ret
      exact ⟨rfl, q1.bl⟩
    have HLT : Hid (k < M ∧ M ≤ 136) := show _ ∧ _ from ⟨hlt, HM.out.2⟩
    have g4 : (k : Int) < (M : Int) := by omega
    have hRx : ∃ x R', R = x :: R' := by
      cases R with
      | nil =>
        have h1 := wdl_at hes
        have h2 : j = 0 := hrk
        have h3 : (wdl ([] : List En)).length = 0 := rfl
        have := HM.out.1
        omega
      | cons x R' => exact ⟨x, R', rfl⟩
    obtain ⟨x, R', rfl⟩ := hRx
    obtain ⟨hjl, hln⟩ := hrk
    obtain ⟨W, hW⟩ : ∃ W, x.ws[j]? = some W := ⟨_, List.getElem?_eq_getElem hjl⟩
    obtain ⟨f1, f2, f3⟩ := flat_at e1 R' x hjl
    rw [← hes, ← hk] at f1 f2 f3
    rw [hW] at f1
    have CP := QT.out.put (by have := HM.out.2; omega) hlt hW hes hk HES.out.2.2
    obtain ⟨-, -, h3, h4, h5, h6, h7, h8⟩ := HES.out.2.2 x (by rw [hes]; simp)
    obtain ⟨xl, xw, xc⟩ := x
    simp only at h3 h4 h5 h6 h7 h8 hln f3 CP
    have HF : Hid ((wdl es)[k]? = some W ∧ (ftl es)[k]? = some (j == 0) ∧ (csl es)[k]? = some xc) := show _ ∧ _ ∧ _ from ⟨f1, f2, f3⟩
    have HLN : Hid (0 < j → lane = xl) := hln
    obtain ⟨fr, hfr⟩ : ∃ z, (G.cla ⟨dw, dh, dl, dd, dr, di, db, de, da⟩ xc).1 = z := ⟨_, rfl⟩
    obtain ⟨mn, hmn⟩ : ∃ z, (G.cla ⟨dw, dh, dl, dd, dr, di, db, de, da⟩ xc).2 = z := ⟨_, rfl⟩
    have CC0 := fun y => G.rclass_any ⟨dw, dh, dl, dd, dr, di, db, de, da⟩ xc y
    simp only [G.cfv, G.cfc] at CC0
    rw [hfr, hmn] at CC0
    rw [hfr] at h3 h4 h5 h6
    rw [hmn] at h4 h7 h8
    have HCL : Hid (fr ≤ xl ∧ xl < fr + mn ∧ 0 ≤ fr ∧ fr ≤ 8 ∧ 0 ≤ mn ∧ mn ≤ 8) := show _ ∧ _ ∧ _ ∧ _ ∧ _ ∧ _ from ⟨h3, h4, h5, h6, h7, h8⟩
    have HCC : Hid (∀ y, Calls Tryz.prog 14 #[.agg #[.int .i64 dw, .int .i64 dh, .int .i64 dl, .int .i64 dd, .int .i64 dr, .int .i64 di, .int .i64 db, .bool de, .bool da], .bool xc] y fun e w' => e = .returned (.tuple #[.int .i64 fr, .int .i64 mn]) ∧ Below y.heap.size y w') := show _ from CC0
    clear f1 f2 f3 hln h3 h4 h5 h6 h7 h8 hfr hmn CC0 hes hk hjl hW QT
    go_upto_region 34 with (go_at_call 13; with_reducible refine CP.mono ?_; rintro e v1 ⟨rfl, e2, R2, j2, n1, n2, n3, q1⟩)
    have HN1 : Hid (es = e2 ++ R2 ∧ k + 1 = (wdl e2).length + j2 ∧ rok R2 j2 xl) := show _ ∧ _ ∧ _ from ⟨n1, n2, n3⟩
    have X1 : Hid (Bk (v1.alloc (.cells #[.int .i64 xl, .int .u64 (W : Int)] 48)) v1.heap.size #[.int .i64 xl, .int .u64 (W : Int)] 48) := Bk.new _ _ _
    have Q1 : Hid (Qt w (v1.alloc (.cells #[.int .i64 xl, .int .u64 (W : Int)] 48)) A b ib ⟨dw, dh, dl, dd, dr, di, db, de, da⟩ ⟨⟨dw, dh, dl, dd, dr, di, db, de, da⟩, nd, (N : Int), (M : Int) - ((k + 1 : Nat) : Int)⟩ J BV g (rem R2 j2) a8 a9 aa es) := show _ from q1.next ((Below.refl _ _).alloc (Nat.le_refl _) _)
    clear CP n1 n2 n3 q1
    generalize v1.alloc (.cells #[.int .i64 xl, .int .u64 (W : Int)] 48) = v2 at *
    generalize v1.heap.size = xB at *
    obtain ⟨ga, oa, rfl, hga, hca⟩ := Q1.out.ra k (.bool xc) (by unfold vt; rw [List.getElem?_map, HF.out.2.2]; rfl)
    have y0 : ∀ y : Gw v2, y.v.cell? ⟨A, 0, none⟩ = some (.int .i64 dw) := fun y => ((Q1.out.cA.next y.le).cell 0).trans rfl
    have y1 : ∀ y : Gw v2, y.v.cell? ⟨A, 1, none⟩ = some (.int .i64 dh) := fun y => ((Q1.out.cA.next y.le).cell 1).trans rfl
    have y2 : ∀ y : Gw v2, y.v.cell? ⟨A, 2, none⟩ = some (.int .i64 dl) := fun y => ((Q1.out.cA.next y.le).cell 2).trans rfl
    have y3 : ∀ y : Gw v2, y.v.cell? ⟨A, 3, none⟩ = some (.int .i64 dd) := fun y => ((Q1.out.cA.next y.le).cell 3).trans rfl
    have y4 : ∀ y : Gw v2, y.v.cell? ⟨A, 4, none⟩ = some (.int .i64 dr) := fun y => ((Q1.out.cA.next y.le).cell 4).trans rfl
    have y5 : ∀ y : Gw v2, y.v.cell? ⟨A, 5, none⟩ = some (.int .i64 di) := fun y => ((Q1.out.cA.next y.le).cell 5).trans rfl
    have y6 : ∀ y : Gw v2, y.v.cell? ⟨A, 6, none⟩ = some (.int .i64 db) := fun y => ((Q1.out.cA.next y.le).cell 6).trans rfl
    have y7 : ∀ y : Gw v2, y.v.cell? ⟨A, 7, none⟩ = some (.bool de) := fun y => ((Q1.out.cA.next y.le).cell 7).trans rfl
    have y8 : ∀ y : Gw v2, y.v.cell? ⟨A, 8, none⟩ = some (.bool da) := fun y => ((Q1.out.cA.next y.le).cell 8).trans rfl
    have ya : ∀ y : Gw v2, y.v.cell? ⟨ga, oa + k, none⟩ = some (.bool xc) := fun y => y.cell hga hca
    have CC9 : ∀ y : Gw v2, Calls Tryz.prog 14 #[.agg #[.int .i64 dw, .int .i64 dh, .int .i64 dl, .int .i64 dd, .int .i64 dr, .int .i64 di, .int .i64 db, .bool de, .bool da], .bool xc] y.v fun e w' => e = .returned (.tuple #[.int .i64 fr, .int .i64 mn]) ∧ Below y.v.heap.size y.v w' := fun y => HCC.out y.v
    have g5 : (M : Int) ≤ 136 := by have := HLT.out; omega
    refine region_gw (by kernel_rfl) (by kernel_rfl) ?_
    repeat (first
      | go_big_quiet_skip
      | quiet_step (first
        | (go_at_call 14; exact quiet_below (CC9 _))))
    refine wpQuiet_nil ?_
    intro z7 hw'
    obtain ⟨⟨u', b7⟩, e⟩ := hw'
    obtain rfl : z7 = u' := e
    clear CC9 ya y0 y1 y2 y3 y4 y5 y6 y7 y8
    have Q7 : Hid (Qt w z7 A b ib ⟨dw, dh, dl, dd, dr, di, db, de, da⟩ ⟨⟨dw, dh, dl, dd, dr, di, db, de, da⟩, nd, (N : Int), (M : Int) - ((k + 1 : Nat) : Int)⟩ J BV g (rem R2 j2) a8 a9 (some ⟨ga, oa, none⟩) es) := Q1.out.next b7
    have X7 : Hid (Bk z7 xB #[.int .i64 xl, .int .u64 (W : Int)] 48) := X1.out.next b7
    clear Q1 X1 hga hca b7
    obtain ⟨fb, hfb⟩ : ∃ f, (j == 0) = f := ⟨_, rfl⟩
    have HFB : Hid ((j == 0) = fb) := hfb
    obtain ⟨gf, of, rfl, hgf, hcf⟩ := Q7.out.r9 k (.bool fb) (by unfold vt; rw [List.getElem?_map, HF.out.2.1, hfb]; rfl)
    obtain ⟨gw, ow, rfl, hgw, hcw⟩ := Q7.out.r8 k (.int .u64 (W : Int)) (by unfold vw; rw [List.getElem?_map, HF.out.1]; rfl)
    have x0 := (X7.out.cell 0).trans rfl
    have x1 := (X7.out.cell 1).trans rfl
    simp only [List.getElem?_toArray, List.getElem?_cons_zero, List.getElem?_cons_succ] at x0 x1
    clear hfb
    go_upto_if 136 with fail
    go_cut [17] from 133 to 138 (fun z wc => z = .int .i64 xl ∧ wc = z7)
    case first =>
      cases fb
      case true =>
        go_wp2_with fail
        go_meet
        exact ⟨rfl, rfl⟩
      case false =>
        have hl : Hid (lane = xl) := HLN.out (by
          have := HFB.out
          rw [beq_eq_false_iff_ne] at this
          omega)
        go_wp2_with fail
        go_meet
        exact ⟨by rw [hl.out], rfl⟩
    case rest =>
    obtain ⟨rfl, ew⟩ := hcut
    rw [ew]
    clear ew wc x0 x1 hcf hgf
    have y0 : ∀ y : Gw z7, y.v.cell? ⟨xB, 0, none⟩ = some (.int .i64 xl) := fun y => ((X7.out.next y.le).cell 0).trans rfl
    have y1 : ∀ y : Gw z7, y.v.cell? ⟨xB, 1, none⟩ = some (.int .u64 (W : Int)) := fun y => ((X7.out.next y.le).cell 1).trans rfl
    have yw : ∀ y : Gw z7, y.v.cell? ⟨gw, ow + k, none⟩ = some (.int .u64 (W : Int)) := fun y => y.cell hgw hcw
    have g6 : fr ≤ xl := HCL.out.1
    have g7 : xl < fr + mn := HCL.out.2.1
    have g8 : 0 ≤ fr := HCL.out.2.2.1
    have g9 : fr ≤ 8 := HCL.out.2.2.2.1
    have g10 : 0 ≤ mn := HCL.out.2.2.2.2.1
    have g11 : mn ≤ 8 := HCL.out.2.2.2.2.2
    have g12 : IntKind.i64.wrap (fr + mn) = fr + mn := IntWalk.i64_in _ (by omega)
    go_upto_region 37 with fail
    refine region_gw (by kernel_rfl) (by kernel_rfl) ?_
    repeat (first
      | go_big_quiet_skip
      | quiet_step (fail))
    refine wpQuiet_nil ?_
    intro z8 hw'
    obtain ⟨⟨u', b8⟩, e⟩ := hw'
    obtain rfl : z8 = u' := e
    have Q8 : Hid (Qt w z8 A b ib ⟨dw, dh, dl, dd, dr, di, db, de, da⟩ ⟨⟨dw, dh, dl, dd, dr, di, db, de, da⟩, nd, (N : Int), (M : Int) - ((k + 1 : Nat) : Int)⟩ J BV g (rem R2 j2) (some ⟨gw, ow, none⟩) (some ⟨gf, of, none⟩) (some ⟨ga, oa, none⟩) es) := Q7.out.next b8
    clear Q7 X7 y0 y1 yw b8 hgw hcw
    go_wp2_with fail
    go_roundw
    case rel => exact ⟨k + 1, j2, e2, R2, xl, HN1.out.1, HN1.out.2.1, HN1.out.2.2, HLT.out.1, rfl, by go_num, Q8.out⟩
    case measure => simp [RowKit.intOf]; omega
end Go.Proofs.YtoejpngdkcnnhaaGreat
