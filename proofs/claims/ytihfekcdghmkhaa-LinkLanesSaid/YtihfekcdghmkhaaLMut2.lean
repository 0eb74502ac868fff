/-
  The program's link: a word is carried.
-/
import Derived.Test.YtihfekcdghmkhaaLMut
namespace Go.Proofs.Ytihfekcdghmkhaa
open Go.RowKit
open RC (Cl cc cv zc)
section
variable {w : World} {b : Nat} {S : LS} {F : Nat → Prop}
theorem lanes_carry {cur : Array Value} (ok : Ok S) (h : Lanes S cur) {p : Nat} {c : Cl} {t : List Cl} (hw : S.ws = c :: t) (hc : c.lane = (p : Int)) (hp : p < S.n) :
    Lanes (carryF S).1 ((cur.setIfInBounds (p * 4 + 1) (.int .i64 ((fly S.ws (p : Int) : Int) - 1))).setIfInBounds (p * 4 + 2) (.int .i64 (S.far.getD p 0 + 1))) := by
  have e : (carryF S).1 = { S with ws := t, far := S.far.set p (S.far.getD p 0 + 1) } := by unfold carryF; rw [hw]; simp only [hc, Int.toNat_natCast]
  rw [e]
  refine h.put (S' := { S with ws := t, far := S.far.set p (S.far.getD p 0 + 1) }) (i := 1) (k := 2) rfl hp (by decide) (by decide) (fun p' hp' => l4_two (fun hne j => l4_of (S' := { S with ws := t, far := S.far.set p (S.far.getD p 0 + 1) }) (S := S) (p := p') rfl ?_ ?_ rfl j) (fun j hj h1 h2 => ?_)) ?_ ?_ (by decide)
  · show fly t (p' : Int) = fly S.ws (p' : Int)
    rw [hw, fly_cons, if_neg (by rw [hc]; omega), Nat.zero_add]
  · show (S.far.set p _).getD p' 0 = _
    rw [getD_set_if _ _ _ _ (by rw [ok.fl]; exact hp), if_neg hne]
  · rcases (show j = 0 ∨ j = 3 by omega) with rfl | rfl <;> rfl
  · show Value.int .i64 (fly t (p : Int) : Int) = _
    rw [hw, fly_cons, if_pos hc]
    congr 1
    omega
  · show Value.int .i64 ((S.far.set p _).getD p 0) = _
    rw [getD_set_if _ _ _ _ (by rw [ok.fl]; exact hp), if_pos rfl]
theorem nil_carry (w : World) : Calls Try.prog 26 #[.pointer none] w fun e w' => e = .returned (.tuple #[.agg #[.int .i64 0, .int .u64 0], .int .i64 1]) ∧ Below w.heap.size w w' := by
  have B0 : Hid (Below w.heap.size w (w.alloc (.cells #[.int .i64 0, .int .u64 0] 35))) := (Below.refl _ _).alloc (Nat.le_refl _) _
  have N0 : Hid (Bk (w.alloc (.cells #[.int .i64 0, .int .u64 0] 35)) w.heap.size #[.int .i64 0, .int .u64 0] 35) := Bk.new _ _ _
  go_enter Try.func26, Try.ntmps26
  go_upto_region 1 with fail
  generalize w.alloc (.cells #[.int .i64 0, .int .u64 0] 35) = v at *
  have d0 := N0.out.cell 0
  have d1 := N0.out.cell 1
  have z0 := N0.out.free 0
  have z1 := N0.out.free 1
  simp only [List.getElem?_toArray, List.getElem?_cons_zero, List.getElem?_cons_succ] at d0 d1
  have Y := (N0.out.set 0 (.int .i64 0)).set 1 (.int .u64 0)
  have y0 := Y.cell 0
  have y1 := Y.cell 1
  simp at y0 y1
  clear N0 Y
  go_wp2
  refine bodyPost_ret (v := .tuple #[.agg #[.int .i64 0, .int .u64 0], .int .i64 1]) ?_ rfl ?_
  · simp [results, Try.results26, go_sem, y0, y1]
  · exact ⟨rfl, (B0.out.setCell (Nat.le_refl _) _).setCell (Nat.le_refl _) _⟩
set_option maxHeartbeats 4000000 in
theorem link_carry (h : Lk w b S F) : Calls Try.prog 26 #[.pointer (some ⟨b, 0, none⟩)] w fun e w' => ∃ F', e = .returned (.tuple #[cv (carryF S).2.1, .int .i64 (carryF S).2.2]) ∧ Lk w' b (carryF S).1 F' ∧ Gr F w w' F' := by
  have B0 : Hid (Below w.heap.size w (w.alloc (.cells #[.int .i64 0, .int .u64 0] 35))) := (Below.refl _ _).alloc (Nat.le_refl _) _
  have N0 : Hid (Bk (w.alloc (.cells #[.int .i64 0, .int .u64 0] 35)) w.heap.size #[.int .i64 0, .int .u64 0] 35) := Bk.new _ _ _
  have h1 : Lk (w.alloc (.cells #[.int .i64 0, .int .u64 0] 35)) b S F := h.next B0.out
  have nF : Hid (¬ F w.heap.size) := show ¬ F w.heap.size from fun c => by have := h.lt _ c; omega
  clear h
  obtain ⟨ok, q, cap, cur, bi, pi, mi, si, bw, pw, mw, sw, hl, rfl⟩ := h1
  have PC := RC.ring_pop hl.two.rc
  have hwx := hl.wx
  have c0 := hl.blk.cell 0
  simp only [List.getElem?_toArray, List.getElem?_cons_zero] at c0
  have HL : Hid _ := hl
  have HO : Hid (Ok S) := ok
  rcases hws : S.ws with _ | ⟨c, t⟩
  · have e1 : carryF S = (S, zc, 8) := by unfold carryF; rw [hws]
    have p1 : RC.peekV sw = zc := by unfold RC.peekV; rw [hwx, hws]; rfl
    have p2 : RC.peekE sw = 8 := by unfold RC.peekE; rw [hwx, hws]; rfl
    rw [e1]
    rw [p1, p2] at PC
    simp only [cv, zc] at PC ⊢
    have HW : Hid (sw.xs = []) := hwx.trans hws
    have HW2 : Hid (S.ws = []) := hws
    clear e1 p1 p2 hwx hws hl ok
    go_enter Try.func26, Try.ntmps26
    go_upto_region 1 with fail
    generalize w.alloc (.cells #[.int .i64 0, .int .u64 0] 35) = v at *
    obtain ⟨nb, hnb⟩ : ∃ y, w.heap.size = y := ⟨_, rfl⟩
    have HB : Hid (w.heap.size = nb) := hnb
    rw [hnb] at B0 N0 nF ⊢
    clear hnb
    go_upto_region 4 with (go_at_call 41; with_reducible refine PC.mono ?_; rintro e w1 ⟨rfl, hR, hF⟩)
    obtain ⟨pw', mw', two, hg, hx⟩ := HL.out.two.stepC (RC.Stp.of hR hF)
    have N1 : Hid (Bk w1 nb #[.int .i64 0, .int .u64 0] 35) := N0.out.gr hg nF.out
    have K1 : Bk w1 b #[.pointer (some ⟨bw, 0, none⟩), .pointer (some ⟨bi, 0, none⟩), .slice (some ⟨q, 0, none⟩) S.n cap] 67 := by unfold Bk; rw [hx b (Or.inl rfl)]; exact HL.out.blk
    have K2 : Bk w1 q cur 70 := by unfold Bk; rw [hx q (Or.inr rfl)]; exact HL.out.row
    have L1 : LkAt w1 b S q cap cur bi pi mi si bw pw' mw' (RC.freeS sw) := ⟨two, HL.out.ne, HL.out.cap1, HL.out.cap2, K1, K2, HL.out.lanes, HL.out.ir, HL.out.il, HL.out.ix, RC.freed_room.trans HL.out.wr, RC.freed_laid.trans HL.out.wl, by rw [RC.freed_xs, HW.out, HW2.out]; rfl⟩
    have L2 : Hid (LkAt (w1.alloc (.cells #[.int .i64 0, .int .u64 0] 35)) b S q cap cur bi pi mi si bw pw' mw' (RC.freeS sw)) := L1.next ((Below.refl _ _).alloc (Nat.le_refl _) _)
    have G2 : Hid (Gr (fp bi pi bw pw (Xo b q)) v (w1.alloc (.cells #[.int .i64 0, .int .u64 0] 35)) (fp bi pi bw pw' (Xo b q))) := hg.below ((Below.refl _ _).alloc (Nat.le_refl _) _)
    have N2 : Hid (Bk (w1.alloc (.cells #[.int .i64 0, .int .u64 0] 35)) nb #[.int .i64 0, .int .u64 0] 35) := N1.out.alloc _
    have M2 : Hid (Bk (w1.alloc (.cells #[.int .i64 0, .int .u64 0] 35)) w1.heap.size #[.int .i64 0, .int .u64 0] 35) := Bk.new _ _ _
    have nF2 : Hid (¬ fp bi pi bw pw' (Xo b q) nb) := hg.off nF.out N0.out.lt
    clear hg hx two hR hF K1 K2 L1 N1 N0 PC c0
    generalize w1.alloc (.cells #[.int .i64 0, .int .u64 0] 35) = v2 at *
    generalize w1.heap.size = cb at *
    have n0 := N2.out.cell 0
    have n1 := N2.out.cell 1
    have z0 := N2.out.free 0
    have z1 := N2.out.free 1
    have m0 := M2.out.cell 0
    have m1 := M2.out.cell 1
    have Y := (N2.out.set 0 (.int .i64 0)).set 1 (.int .u64 0)
    have y0 := Y.cell 0
    have y1 := Y.cell 1
    simp at y0 y1
    simp only [List.getElem?_toArray, List.getElem?_cons_zero, List.getElem?_cons_succ] at n0 n1 m0 m1
    clear Y
    go_wp2
    refine bodyPost_ret (v := .tuple #[.agg #[.int .i64 0, .int .u64 0], .int .i64 8]) ?_ rfl ?_
    · simp [results, Try.results26, go_sem, y0, y1]
    · refine ⟨fp bi pi bw pw' (Xo b q), rfl, ?_, ?_⟩
      · have LL : Lk v2 b S (fp bi pi bw pw' (Xo b q)) := ⟨HO.out, q, cap, cur, bi, pi, mi, si, bw, pw', mw', _, L2.out, rfl⟩
        exact (LL.far nF2.out).far nF2.out
      · exact (((show Gr (fp bi pi bw pw (Xo b q)) w v (fp bi pi bw pw (Xo b q)) from Gr.of (by rw [HB.out]; exact B0.out)).trans G2.out).setNew (by rw [HB.out]; exact Nat.le_refl _)).setNew (by rw [HB.out]; exact Nat.le_refl _)
  · obtain ⟨p, hcp, hp⟩ := inL_nat (ok.wi c (by rw [hws]; exact List.mem_cons_self ..))
    obtain ⟨cl, cx⟩ := c
    obtain rfl : cl = (p : Int) := hcp
    have e1 : carryF S = ((carryF S).1, ⟨(p : Int), cx⟩, 0) := by unfold carryF; rw [hws]
    have p1 : RC.peekV sw = ⟨(p : Int), cx⟩ := by unfold RC.peekV; rw [hwx, hws]; rfl
    have p2 : RC.peekE sw = 0 := by unfold RC.peekE; rw [hwx, hws]; rfl
    have f1 : (carryF S).1.n = S.n := by unfold carryF; rw [hws]
    have f2 : (carryF S).1.d = S.d := by unfold carryF; rw [hws]
    have f3 : (carryF S).1.r = S.r := by unfold carryF; rw [hws]
    have f4 : (carryF S).1.bk = S.bk := by unfold carryF; rw [hws]
    have f5 : (carryF S).1.ws = t := by unfold carryF; rw [hws]
    have HF5 : Hid ((carryF S).1.n = S.n ∧ (carryF S).1.d = S.d ∧ (carryF S).1.r = S.r ∧ (carryF S).1.bk = S.bk ∧ (carryF S).1.ws = t) := ⟨f1, f2, f3, f4, f5⟩
    have L0 := lanes_carry ok hl.lanes hws rfl hp
    have hsum := ok.sum p hp
    have hd64 := ok.d64
    have hfl : 1 ≤ fly S.ws (p : Int) := by rw [hws, fly_cons, if_pos rfl]; omega
    have hok : Ok (carryF S).1 := ok.carry
    have HOK : Hid (Ok (carryF S).1) := hok
    obtain ⟨X, hX⟩ : ∃ X, S.far.getD p 0 = X := ⟨_, rfl⟩
    obtain ⟨Y, hY⟩ : ∃ Y : Int, (fly S.ws (p : Int) : Int) = Y := ⟨_, rfl⟩
    have g1 : (w.alloc (.cells #[.int .i64 0, .int .u64 0] 35)).cell? ⟨q, p * 4 + 1, none⟩ = some (.int .i64 Y) := by rw [← hY]; exact (hl.four hp).2.1
    have g2 : (w.alloc (.cells #[.int .i64 0, .int .u64 0] 35)).cell? ⟨q, p * 4 + 2, none⟩ = some (.int .i64 X) := by rw [← hX]; exact (hl.four hp).2.2.1
    rw [hX, hY] at L0
    have v0 : IntKind.i64.wrap (Y - 1) = Y - 1 := IntWalk.i64_in _ (by omega)
    have v1 : IntKind.i64.wrap (X + 1) = X + 1 := IntWalk.i64_in _ (by omega)
    obtain ⟨X2, hX2⟩ : ∃ y, X + 1 = y := ⟨_, rfl⟩
    obtain ⟨Y2, hY2⟩ : ∃ y, Y - 1 = y := ⟨_, rfl⟩
    have u0 : IntKind.i64.wrap (Y - 1) = Y2 := v0.trans hY2
    have u1 : IntKind.i64.wrap (X + 1) = X2 := v1.trans hX2
    rw [hX2, hY2] at L0
    have HL2 : Hid (Lanes (carryF S).1 ((cur.setIfInBounds (p * 4 + 1) (.int .i64 Y2)).setIfInBounds (p * 4 + 2) (.int .i64 X2))) := L0
    rw [e1]
    rw [p1, p2] at PC
    simp only [cv] at PC ⊢
    have HG12 : Hid (cur[p * 4 + 1]? = some (.int .i64 Y) ∧ cur[p * 4 + 2]? = some (.int .i64 X)) := ⟨by rw [← hY]; exact hl.lanes p hp 1 (by decide), by rw [← hX]; exact hl.lanes p hp 2 (by decide)⟩
    have HW : Hid (sw.xs = ⟨(p : Int), cx⟩ :: t) := hwx.trans hws
    have i0 : (0 : Int) ≤ (p : Int) := by omega
    have i1 : (p : Int) < (S.n : Int) := by omega
    clear e1 p1 p2 hwx hws hl ok f1 f2 f3 f4 f5 hX hY v0 v1 hX2 hY2 L0 hsum hd64 hfl hok g1 g2 hp
    generalize (carryF S).1 = S' at *
    go_enter Try.func26, Try.ntmps26
    go_upto_region 1 with fail
    generalize w.alloc (.cells #[.int .i64 0, .int .u64 0] 35) = v at *
    obtain ⟨nb, hnb⟩ : ∃ y, w.heap.size = y := ⟨_, rfl⟩
    have HB : Hid (w.heap.size = nb) := hnb
    rw [hnb] at B0 N0 nF ⊢
    clear hnb
    go_upto_region 4 with (go_at_call 41; with_reducible refine PC.mono ?_; rintro e w1 ⟨rfl, hR, hF⟩)
    obtain ⟨pw', mw', two, hg, hx⟩ := HL.out.two.stepC (RC.Stp.of hR hF)
    have ha : Below w1.heap.size w1 (w1.alloc (.cells #[.int .i64 (p : Int), .int .u64 cx] 35)) := (Below.refl _ _).alloc (Nat.le_refl _) _
    have N1 : Bk w1 nb #[.int .i64 0, .int .u64 0] 35 := N0.out.gr hg nF.out
    have K1 : Bk w1 b #[.pointer (some ⟨bw, 0, none⟩), .pointer (some ⟨bi, 0, none⟩), .slice (some ⟨q, 0, none⟩) S.n cap] 67 := by unfold Bk; rw [hx b (Or.inl rfl)]; exact HL.out.blk
    have K2 : Bk w1 q cur 70 := by unfold Bk; rw [hx q (Or.inr rfl)]; exact HL.out.row
    have KK1 : Hid (Bk (w1.alloc (.cells #[.int .i64 (p : Int), .int .u64 cx] 35)) b #[.pointer (some ⟨bw, 0, none⟩), .pointer (some ⟨bi, 0, none⟩), .slice (some ⟨q, 0, none⟩) S.n cap] 67) := K1.alloc _
    have KK2 : Hid (Bk (w1.alloc (.cells #[.int .i64 (p : Int), .int .u64 cx] 35)) q cur 70) := K2.alloc _
    have T2 : Hid (Two (w1.alloc (.cells #[.int .i64 (p : Int), .int .u64 cx] 35)) bi pi mi si bw pw' mw' (RC.freeS sw) (Xo b q)) := two.below ha
    have G2 : Hid (Gr (fp bi pi bw pw (Xo b q)) v (w1.alloc (.cells #[.int .i64 (p : Int), .int .u64 cx] 35)) (fp bi pi bw pw' (Xo b q))) := hg.below ha
    have N2 : Hid (Bk (w1.alloc (.cells #[.int .i64 (p : Int), .int .u64 cx] 35)) nb #[.int .i64 0, .int .u64 0] 35) := N1.alloc _
    have M2 : Hid (Bk (w1.alloc (.cells #[.int .i64 (p : Int), .int .u64 cx] 35)) w1.heap.size #[.int .i64 (p : Int), .int .u64 cx] 35) := Bk.new _ _ _
    have nF2 : Hid (¬ fp bi pi bw pw' (Xo b q) nb) := hg.off nF.out N0.out.lt
    have cF2 : w1.heap.size ≠ q := fun e => by have := K2.lt; omega
    have nq1 : nb ≠ q := fun e => nF.out (by rw [e]; exact fp_q)
    clear hg hx two hR hF K1 K2 N1 N0 PC c0 ha
    generalize w1.alloc (.cells #[.int .i64 (p : Int), .int .u64 cx] 35) = v2 at *
    generalize w1.heap.size = cb at *
    have n0 := N2.out.cell 0
    have n1 := N2.out.cell 1
    have z0 := N2.out.free 0
    have z1 := N2.out.free 1
    have m0 := M2.out.cell 0
    have m1 := M2.out.cell 1
    have c2 := KK1.out.cell 2
    have g1 : v2.cell? ⟨q, p * 4 + 1, none⟩ = some (.int .i64 Y) := by rw [KK2.out.cell]; exact HG12.out.1
    have g2 : v2.cell? ⟨q, p * 4 + 2, none⟩ = some (.int .i64 X) := by rw [KK2.out.cell]; exact HG12.out.2
    have x1 := KK2.out.free (p * 4 + 1)
    have x2 := KK2.out.free (p * 4 + 2)
    simp only [List.getElem?_toArray, List.getElem?_cons_zero, List.getElem?_cons_succ] at n0 n1 m0 m1 c2
    go_upto_region 5 with fail
    go_quiet (fail)
    have T3 : Two (v2.drewN nq) bi pi mi si bw pw' mw' (RC.freeS sw) (Xo b q) := T2.out.below (dn (Below.refl _ _) nq)
    have yy := (((N2.out.drewN nq).far (k := q) (j := p * 4 + 1) (x := .int .i64 Y2) nq1).far (k := q) (j := p * 4 + 2) (x := .int .i64 X2) nq1)
    have Z := (yy.set 0 (.int .i64 (p : Int))).set 1 (.int .u64 cx)
    have y0 := Z.cell 0
    have y1 := Z.cell 1
    simp at y0 y1
    clear Z yy
    go_wp2
    refine bodyPost_ret (v := .tuple #[.agg #[.int .i64 (p : Int), .int .u64 cx], .int .i64 0]) ?_ rfl ?_
    · simp [results, Try.results26, go_sem, y0, y1]
    · obtain ⟨f1, f2, f3, f4, f5⟩ := HF5.out
      refine ⟨fp bi pi bw pw' (Xo b q), rfl, ?_, ?_⟩
      · have LL : Lk _ b S' (fp bi pi bw pw' (Xo b q)) := ⟨HOK.out, q, cap, _, bi, pi, mi, si, bw, pw', mw', _, LkAt.upd (S := S) (S' := S') (p := p) (i := 1) (j := 2) T3 HL.out.ne HL.out.cap1 HL.out.cap2 (KK1.out.drewN nq) (KK2.out.drewN nq) f1 f2 f3 HL2.out HL.out.ir HL.out.il (HL.out.ix.trans f4.symm) (RC.freed_room.trans HL.out.wr) (RC.freed_laid.trans HL.out.wl) (by rw [RC.freed_xs, HW.out, f5]; rfl), rfl⟩
        exact (LL.far nF2.out).far nF2.out
      · exact (((((show Gr (fp bi pi bw pw (Xo b q)) w v (fp bi pi bw pw (Xo b q)) from Gr.of (by rw [HB.out]; exact B0.out)).trans G2.out).below (dn (Below.refl _ _) nq)).trans (gr_upd T3 _ _ _ _)).setNew (by rw [HB.out]; exact Nat.le_refl _)).setNew (by rw [HB.out]; exact Nat.le_refl _)
end
end Go.Proofs.Ytihfekcdghmkhaa
