/-
  The walk of the document's Carry.
-/
import Derived.Test.YtihfekcdghmkhaaLCred
namespace Go.Proofs.Ytihfekcdghmkhaa
open Go.RowKit
open RC (Cl cc cv zc cc_len cc_at)

theorem pair_at {v : World} {b : Nat} {y0 y1 : Value} {t : TypeId} (h : Bk v b #[y0, y1] t) (x0 x1 : Value) : Bk ((v.setCell ⟨b, 0, none⟩ x0).setCell ⟨b, 1, none⟩ x1) b #[x0, x1] t := by
  have := (h.set 0 x0).set 1 x1
  simpa using this
theorem seven_far {v : World} {b k : Nat} {cs : Array Value} {t : TypeId} (h : Bk v b cs t) (hne : b ≠ k) (x0 x1 x2 x3 x4 x5 x6 : Value) : Bk (((((((v.setCell ⟨k, 0, none⟩ x0).setCell ⟨k, 1, none⟩ x1).setCell ⟨k, 2, none⟩ x2).setCell ⟨k, 3, none⟩ x3).setCell ⟨k, 4, none⟩ x4).setCell ⟨k, 5, none⟩ x5).setCell ⟨k, 6, none⟩ x6) b cs t :=
  ((((((h.far hne).far hne).far hne).far hne).far hne).far hne).far hne
theorem pair_far {v : World} {b k : Nat} {cs : Array Value} {t : TypeId} (h : Bk v b cs t) (hne : b ≠ k) (x0 x1 : Value) : Bk ((v.setCell ⟨k, 0, none⟩ x0).setCell ⟨k, 1, none⟩ x1) b cs t := (h.far hne).far hne
/-- Three new blocks. -/
theorem three_new (w : World) (t u : TypeId) (cs ds es : Array Value) : Bk (((w.alloc (.cells cs t)).alloc (.cells ds t)).alloc (.cells es u)) w.heap.size cs t ∧ Bk (((w.alloc (.cells cs t)).alloc (.cells ds t)).alloc (.cells es u)) (w.heap.size + 1) ds t ∧ Bk (((w.alloc (.cells cs t)).alloc (.cells ds t)).alloc (.cells es u)) (w.heap.size + 1 + 1) es u ∧ Below w.heap.size w (((w.alloc (.cells cs t)).alloc (.cells ds t)).alloc (.cells es u)) := by
  obtain ⟨h1, h2, h3⟩ := two_links w t cs ds
  refine ⟨h1.alloc _, h2.alloc _, ?_, h3.alloc h3.size _⟩
  have := Bk.new ((w.alloc (.cells cs t)).alloc (.cells ds t)) es u
  rwa [show ((w.alloc (.cells cs t)).alloc (.cells ds t)).heap.size = w.heap.size + 1 + 1 by simp] at this

set_option maxRecDepth 100000 in
set_option maxHeartbeats 8000000 in
theorem carry_none (S : LS) (v : Value) (w : World) (hv : RefAt w v S) (hb : S.ws = []) :
    Calls Try.prog 35 #[v] w fun e w' => e = .returned (.tuple #[v, cv zc, .int .i64 8]) ∧ Below w.heap.size w w' := by
  obtain ⟨a1, a2, a3, a4, c1, c2, c3, c4, rfl, -, -, -⟩ := hv
  unfold lsv
  rw [hb]
  simp only [List.length_nil, cv, zc]
  obtain ⟨q1, q2, q3, q4⟩ := three_new w 30 35 #[.int .i64 (S.n : Int), .int .i64 (S.d : Int), .int .i64 (S.r : Int), .slice a1 S.cr.length c1, .slice a2 0 c2, .slice a3 S.far.length c3, .slice a4 S.bk.length c4] lz #[.int .i64 0, .int .u64 0]
  have P0 : Hid (Bk _ w.heap.size #[.int .i64 (S.n : Int), .int .i64 (S.d : Int), .int .i64 (S.r : Int), .slice a1 S.cr.length c1, .slice a2 0 c2, .slice a3 S.far.length c3, .slice a4 S.bk.length c4] 30) := q1
  have R0 : Hid (Bk _ (w.heap.size + 1) lz 30) := q2
  have C0 : Hid (Bk _ (w.heap.size + 1 + 1) #[.int .i64 0, .int .u64 0] 35) := q3
  have B0 : Hid (Below w.heap.size w _) := q4
  clear q1 q2 q3 q4 hb
  go_enter Try.func35, Try.ntmps35
  go_upto_region 1 with fail
  generalize (((w.alloc (.cells #[.int .i64 (S.n : Int), .int .i64 (S.d : Int), .int .i64 (S.r : Int), .slice a1 S.cr.length c1, .slice a2 0 c2, .slice a3 S.far.length c3, .slice a4 S.bk.length c4] 30)).alloc (.cells lz 30)).alloc (.cells #[.int .i64 0, .int .u64 0] 35)) = v0 at *
  have d0 := P0.out.cell 0
  have d1 := P0.out.cell 1
  have d2 := P0.out.cell 2
  have d3 := P0.out.cell 3
  have d4 := P0.out.cell 4
  have d5 := P0.out.cell 5
  have d6 := P0.out.cell 6
  simp only [List.getElem?_toArray, List.getElem?_cons_zero, List.getElem?_cons_succ] at d0 d1 d2 d3 d4 d5 d6
  have e0 := R0.out.cell 0
  have e1 := R0.out.cell 1
  have e2 := R0.out.cell 2
  have e3 := R0.out.cell 3
  have e4 := R0.out.cell 4
  have e5 := R0.out.cell 5
  have e6 := R0.out.cell 6
  simp only [List.getElem?_toArray, List.getElem?_cons_zero, List.getElem?_cons_succ] at e0 e1 e2 e3 e4 e5 e6
  have z0 := R0.out.free 0
  have z1 := R0.out.free 1
  have z2 := R0.out.free 2
  have z3 := R0.out.free 3
  have z4 := R0.out.free 4
  have z5 := R0.out.free 5
  have z6 := R0.out.free 6
  have k0 := C0.out.cell 0
  have k1 := C0.out.cell 1
  simp only [List.getElem?_toArray, List.getElem?_cons_zero, List.getElem?_cons_succ] at k0 k1
  have j0 := C0.out.free 0
  have j1 := C0.out.free 1
  have Y1 := pair_far (seven_at R0.out (.int .i64 (S.n : Int)) (.int .i64 (S.d : Int)) (.int .i64 (S.r : Int)) (.slice a1 S.cr.length c1) (.slice a2 0 c2) (.slice a3 S.far.length c3) (.slice a4 S.bk.length c4)) (by omega : w.heap.size + 1 ≠ w.heap.size + 1 + 1) (.int .i64 0) (.int .u64 0)
  have Y2 := pair_at (seven_far C0.out (by omega : w.heap.size + 1 + 1 ≠ w.heap.size + 1) (.int .i64 (S.n : Int)) (.int .i64 (S.d : Int)) (.int .i64 (S.r : Int)) (.slice a1 S.cr.length c1) (.slice a2 0 c2) (.slice a3 S.far.length c3) (.slice a4 S.bk.length c4)) (.int .i64 0) (.int .u64 0)
  have y0 := Y1.cell 0
  have y1 := Y1.cell 1
  have y2 := Y1.cell 2
  have y3 := Y1.cell 3
  have y4 := Y1.cell 4
  have y5 := Y1.cell 5
  have y6 := Y1.cell 6
  simp only [List.getElem?_toArray, List.getElem?_cons_zero, List.getElem?_cons_succ] at y0 y1 y2 y3 y4 y5 y6
  have x0 := Y2.cell 0
  have x1 := Y2.cell 1
  simp only [List.getElem?_toArray, List.getElem?_cons_zero, List.getElem?_cons_succ] at x0 x1
  clear Y1 Y2
  go_wp2
  refine bodyPost_ret (v := .tuple #[.agg #[.int .i64 (S.n : Int), .int .i64 (S.d : Int), .int .i64 (S.r : Int), .slice a1 S.cr.length c1, .slice a2 0 c2, .slice a3 S.far.length c3, .slice a4 S.bk.length c4], .agg #[.int .i64 0, .int .u64 0], .int .i64 8]) (by simp [results, Try.results35, go_sem, y0, y1, y2, y3, y4, y5, y6, x0, x1]; try rfl) rfl ⟨rfl, ((below_seven B0.out (by omega) _ _ _ _ _ _ _).setCell (by show w.heap.size ≤ w.heap.size + 1 + 1; omega) _).setCell (by show w.heap.size ≤ w.heap.size + 1 + 1; omega) _⟩
theorem rd_tail2 {w : World} {g o : Nat} {x : Cl} {l : List Cl} (h : Rd w (some ⟨g, o, none⟩) ((x :: l).flatMap cc)) : Rd w (some ⟨g, o + 2, none⟩) (l.flatMap cc) := fun j v hj => by
  obtain ⟨g', o', e, hg, hc⟩ := h (j + 2) v (by simpa using hj)
  simp only [Option.some.injEq, Addr.mk.injEq] at e
  obtain ⟨rfl, rfl, _⟩ := e
  exact ⟨g, o + 2, rfl, hg, by rw [Nat.add_assoc, Nat.add_comm 2 j]; exact hc⟩
set_option maxRecDepth 100000 in
set_option maxHeartbeats 16000000 in
theorem carry_some (S : LS) (v : Value) (w : World) (hv : RefAt w v S) (q : Nat) (xw : Int) (tl : List Cl) (hb : S.ws = ⟨(q : Int), xw⟩ :: tl) (hq : q < S.far.length) (hn : S.far.length ≤ 1000) (hx : -9223372036854775808 ≤ S.far.getD q 0 + 1 ∧ S.far.getD q 0 + 1 ≤ 9223372036854775807) :
    Calls Try.prog 35 #[v] w fun e w' => ∃ v', e = .returned (.tuple #[v', cv ⟨(q : Int), xw⟩, .int .i64 0]) ∧ RefAt w' v' { S with ws := tl, far := S.far.set q (S.far.getD q 0 + 1) } ∧ Below w.heap.size w w' ∧ Src w.heap.size w'.heap.size v v' := by
  obtain ⟨a1, a2, a3, a4, c1, c2, c3, c4, rfl, ⟨r1, r2, r3, r4⟩, x2, x4⟩ := hv
  unfold lsv
  rw [hb] at r2 x2 ⊢
  obtain ⟨m, hm⟩ : ∃ m, tl.length = m := ⟨_, rfl⟩
  rw [List.length_cons, hm] at x2 ⊢
  obtain ⟨g, o, rfl, hg, hc0⟩ := r2 0 (.int .i64 (q : Int)) rfl
  obtain ⟨g', o', e', -, hc1⟩ := r2 1 (.int .u64 xw) rfl
  simp only [Option.some.injEq, Addr.mk.injEq] at e'
  obtain ⟨rfl, rfl, -⟩ := e'
  rw [Nat.add_zero] at hc0
  simp only [cv]
  have R2 : Hid (Rd w (some ⟨g, o, none⟩) ((⟨(q : Int), xw⟩ :: tl : List Cl).flatMap cc)) := r2
  have R1 : Hid (Rd w a1 (vi S.cr)) := r1
  have R4 : Hid (Rd w a4 (vi S.bk)) := r4
  have R3 : Hid (Rd w a3 (vi S.far)) := r3
  have X4 : Hid (S.bk.length ≤ c4 ∧ c4 ≤ maxLen ∧ (a4 = none → S.bk.length = 0 ∧ c4 = 0)) := x4
  obtain ⟨x21, x22, -⟩ := x2
  unfold maxLen at x22
  have HMM : Hid (tl.length = m) := hm
  have WC := fun V (h : Rd V a3 (vi S.far)) => with_any S.far a3 c3 q 1 V h hq hn hx
  clear r1 r2 r3 r4 x4 hm hb hx
  obtain ⟨q1, q2, q3, q4⟩ := three_new w 30 35 #[.int .i64 (S.n : Int), .int .i64 (S.d : Int), .int .i64 (S.r : Int), .slice a1 S.cr.length c1, .slice (some ⟨g, o, none⟩) (m + 1) c2, .slice a3 S.far.length c3, .slice a4 S.bk.length c4] lz #[.int .i64 0, .int .u64 0]
  have P0 : Hid (Bk _ w.heap.size #[.int .i64 (S.n : Int), .int .i64 (S.d : Int), .int .i64 (S.r : Int), .slice a1 S.cr.length c1, .slice (some ⟨g, o, none⟩) (m + 1) c2, .slice a3 S.far.length c3, .slice a4 S.bk.length c4] 30) := q1
  have R0 : Hid (Bk _ (w.heap.size + 1) lz 30) := q2
  have C0 : Hid (Bk _ (w.heap.size + 1 + 1) #[.int .i64 0, .int .u64 0] 35) := q3
  have B0 : Hid (Below w.heap.size w _) := q4
  clear q1 q2 q3 q4
  go_enter Try.func35, Try.ntmps35
  go_upto_region 1 with fail
  generalize (((w.alloc (.cells #[.int .i64 (S.n : Int), .int .i64 (S.d : Int), .int .i64 (S.r : Int), .slice a1 S.cr.length c1, .slice (some ⟨g, o, none⟩) (m + 1) c2, .slice a3 S.far.length c3, .slice a4 S.bk.length c4] 30)).alloc (.cells lz 30)).alloc (.cells #[.int .i64 0, .int .u64 0] 35)) = v0 at *
  obtain ⟨p, hp⟩ : ∃ p, w.heap.size = p := ⟨_, rfl⟩
  have HP : Hid (w.heap.size = p) := hp
  rw [hp] at P0 R0 C0 B0 hg ⊢
  clear hp
  have d0 := P0.out.cell 0
  have d1 := P0.out.cell 1
  have d2 := P0.out.cell 2
  have d3 := P0.out.cell 3
  have d4 := P0.out.cell 4
  have d5 := P0.out.cell 5
  have d6 := P0.out.cell 6
  simp only [List.getElem?_toArray, List.getElem?_cons_zero, List.getElem?_cons_succ] at d0 d1 d2 d3 d4 d5 d6
  have hc0' := (B0.out.cell (p := ⟨g, o, none⟩) hg).trans hc0
  have hc1' := (B0.out.cell (p := ⟨g, o + 1, none⟩) hg).trans hc1
  go_upto_region 4 with fail
  have P1 : Hid (Bk (v0.alloc (.cells #[.int .i64 (q : Int), .int .u64 xw] 35)) p #[.int .i64 (S.n : Int), .int .i64 (S.d : Int), .int .i64 (S.r : Int), .slice a1 S.cr.length c1, .slice (some ⟨g, o, none⟩) (m + 1) c2, .slice a3 S.far.length c3, .slice a4 S.bk.length c4] 30) := P0.out.alloc _
  have R1' : Hid (Bk (v0.alloc (.cells #[.int .i64 (q : Int), .int .u64 xw] 35)) (p + 1) lz 30) := R0.out.alloc _
  have C1' : Hid (Bk (v0.alloc (.cells #[.int .i64 (q : Int), .int .u64 xw] 35)) (p + 1 + 1) #[.int .i64 0, .int .u64 0] 35) := C0.out.alloc _
  have K1 : Hid (Bk (v0.alloc (.cells #[.int .i64 (q : Int), .int .u64 xw] 35)) v0.heap.size #[.int .i64 (q : Int), .int .u64 xw] 35) := Bk.new _ _ _
  have hcb : p + 1 + 1 < v0.heap.size := C0.out.lt
  have B1 : Hid (Below p w (v0.alloc (.cells #[.int .i64 (q : Int), .int .u64 xw] 35))) := B0.out.alloc (by omega) _
  clear P0 R0 C0 B0 d0 d1 d2 d3 d4 d5 d6 hc0' hc1'
  generalize v0.alloc (.cells #[.int .i64 (q : Int), .int .u64 xw] 35) = w1 at *
  obtain ⟨cb, hcb2⟩ : ∃ b, v0.heap.size = b := ⟨_, rfl⟩
  rw [hcb2] at K1 hcb ⊢
  clear hcb2
  have c4' := P1.out.cell 4
  have z4' := P1.out.free 4
  simp only [List.getElem?_toArray, List.getElem?_cons_zero, List.getElem?_cons_succ] at c4'
  have e1 : (1 : Int) ≤ (m : Int) + 1 := by omega
  by_cases hcap : c2 = 1
  · subst hcap
    obtain rfl : m = 0 := by omega
    go_upto_region 5 with fail
    have P3 : Hid (Bk (w1.setCell ⟨p, 4, none⟩ (.slice (some ⟨g, o, none⟩) 0 0)) p #[.int .i64 (S.n : Int), .int .i64 (S.d : Int), .int .i64 (S.r : Int), .slice a1 S.cr.length c1, .slice (some ⟨g, o, none⟩) 0 0, .slice a3 S.far.length c3, .slice a4 S.bk.length c4] 30) := show Bk _ _ _ _ from by simpa using P1.out.set 4 (.slice (some ⟨g, o, none⟩) 0 0)
    have R3' : Hid (Bk (w1.setCell ⟨p, 4, none⟩ (.slice (some ⟨g, o, none⟩) 0 0)) (p + 1) lz 30) := R1'.out.far (by omega)
    have C3' : Hid (Bk (w1.setCell ⟨p, 4, none⟩ (.slice (some ⟨g, o, none⟩) 0 0)) (p + 1 + 1) #[.int .i64 0, .int .u64 0] 35) := C1'.out.far (by omega)
    have K3 : Hid (Bk (w1.setCell ⟨p, 4, none⟩ (.slice (some ⟨g, o, none⟩) 0 0)) cb #[.int .i64 (q : Int), .int .u64 xw] 35) := K1.out.far (by omega)
    have B3 : Hid (Below p w (w1.setCell ⟨p, 4, none⟩ (.slice (some ⟨g, o, none⟩) 0 0))) := B1.out.setCell (Nat.le_refl _) _
    have hcz3 : cb < (w1.setCell ⟨p, 4, none⟩ (.slice (some ⟨g, o, none⟩) 0 0)).heap.size := K3.out.lt
    clear P1 R1' C1' K1 B1 c4' z4'
    generalize w1.setCell ⟨p, 4, none⟩ (.slice (some ⟨g, o, none⟩) 0 0) = w3 at *
    have RD3 : Rd w3 a3 (vi S.far) := R3.out.below (by rw [HP.out]; exact B3.out)
    have WC3 := WC w3 RD3
    have d0 := P3.out.cell 0
    have d1 := P3.out.cell 1
    have d2 := P3.out.cell 2
    have d3 := P3.out.cell 3
    have d4 := P3.out.cell 4
    have d5 := P3.out.cell 5
    have d6 := P3.out.cell 6
    simp only [List.getElem?_toArray, List.getElem?_cons_zero, List.getElem?_cons_succ] at d0 d1 d2 d3 d4 d5 d6
    have k0 := K3.out.cell 0
    have k1 := K3.out.cell 1
    simp only [List.getElem?_toArray, List.getElem?_cons_zero, List.getElem?_cons_succ] at k0 k1
    go_wp2_with fail
    go_at_call 48
    with_reducible refine WC3.mono ?_
    rintro e w4 ⟨nv, rfl, ow, h4⟩
    obtain ⟨a3', c3', rfl, -, -, rd3⟩ := ow.rd
    have LQ : (vi (S.far.set q (S.far.getD q 0 + 1))).length = S.far.length := by rw [vi_len, List.length_set]
    rw [LQ]
    have HOW : Hid (Own 3 w4 w3.heap.size (.slice a3' S.far.length c3') (vi (S.far.set q (S.far.getD q 0 + 1)))) := (LQ ▸ ow : Own 3 w4 w3.heap.size (.slice a3' S.far.length c3') (vi (S.far.set q (S.far.getD q 0 + 1))))
    have P4 : Hid (Bk w4 p #[.int .i64 (S.n : Int), .int .i64 (S.d : Int), .int .i64 (S.r : Int), .slice a1 S.cr.length c1, .slice (some ⟨g, o, none⟩) 0 0, .slice a3 S.far.length c3, .slice a4 S.bk.length c4] 30) := P3.out.next h4
    have R4' : Hid (Bk w4 (p + 1) lz 30) := R3'.out.next h4
    have C4' : Hid (Bk w4 (p + 1 + 1) #[.int .i64 0, .int .u64 0] 35) := C3'.out.next h4
    have K4 : Hid (Bk w4 cb #[.int .i64 (q : Int), .int .u64 xw] 35) := K3.out.next h4
    have hps : p ≤ w3.heap.size := Nat.le_of_lt P3.out.lt
    have B4 : Hid (Below p w w4) := B3.out.trans (h4.mono hps)
    clear WC WC3 RD3 ow rd3 h4 P3 R3' C3' K3 B3 d0 d1 d2 d3 d4 d5 d6 k0 k1
    have d5 := P4.out.cell 5
    have z5 := P4.out.free 5
    simp only [List.getElem?_toArray, List.getElem?_cons_zero, List.getElem?_cons_succ] at d5
    go_upto_region 6 with fail
    have P5 : Hid (Bk (w4.setCell ⟨p, 5, none⟩ (.slice a3' S.far.length c3')) p #[.int .i64 (S.n : Int), .int .i64 (S.d : Int), .int .i64 (S.r : Int), .slice a1 S.cr.length c1, .slice (some ⟨g, o, none⟩) 0 0, .slice a3' S.far.length c3', .slice a4 S.bk.length c4] 30) := show Bk _ _ _ _ from by simpa using P4.out.set 5 (.slice a3' S.far.length c3')
    have R5' : Hid (Bk (w4.setCell ⟨p, 5, none⟩ (.slice a3' S.far.length c3')) (p + 1) lz 30) := R4'.out.far (by omega)
    have C5' : Hid (Bk (w4.setCell ⟨p, 5, none⟩ (.slice a3' S.far.length c3')) (p + 1 + 1) #[.int .i64 0, .int .u64 0] 35) := C4'.out.far (by omega)
    have K5 : Hid (Bk (w4.setCell ⟨p, 5, none⟩ (.slice a3' S.far.length c3')) cb #[.int .i64 (q : Int), .int .u64 xw] 35) := K4.out.far (by omega)
    have B5 : Hid (Below p w (w4.setCell ⟨p, 5, none⟩ (.slice a3' S.far.length c3'))) := B4.out.setCell (Nat.le_refl _) _
    have HOW5 : Hid (Own 3 (w4.setCell ⟨p, 5, none⟩ (.slice a3' S.far.length c3')) w3.heap.size (.slice a3' S.far.length c3') (vi (S.far.set q (S.far.getD q 0 + 1)))) := OwnK.far (k := 1) HOW.out (by omega)
    clear P4 R4' C4' K4 B4 HOW d5 z5
    generalize w4.setCell ⟨p, 5, none⟩ (.slice a3' S.far.length c3') = w5 at *
    have S0 : (fun V : World => V.cell? ⟨p, 0, none⟩ = some (.int .i64 (S.n : Int)) ∧ V.cell? ⟨p, 1, none⟩ = some (.int .i64 (S.d : Int)) ∧ V.cell? ⟨p, 2, none⟩ = some (.int .i64 (S.r : Int)) ∧ V.cell? ⟨p, 3, none⟩ = some (.slice a1 S.cr.length c1) ∧ V.cell? ⟨p, 4, none⟩ = some (.slice (some ⟨g, o, none⟩) 0 0) ∧ V.cell? ⟨p, 5, none⟩ = some (.slice a3' S.far.length c3') ∧ V.cell? ⟨p, 6, none⟩ = some (.slice a4 S.bk.length c4) ∧ V.cell? ⟨cb, 0, none⟩ = some (.int .i64 (q : Int)) ∧ V.cell? ⟨cb, 1, none⟩ = some (.int .u64 xw)) w5.drew := ⟨P5.out.cell 0, P5.out.cell 1, P5.out.cell 2, P5.out.cell 3, P5.out.cell 4, P5.out.cell 5, P5.out.cell 6, K5.out.cell 0, K5.out.cell 1⟩
    refine wp_region_G (fun V : World => V.cell? ⟨p, 0, none⟩ = some (.int .i64 (S.n : Int)) ∧ V.cell? ⟨p, 1, none⟩ = some (.int .i64 (S.d : Int)) ∧ V.cell? ⟨p, 2, none⟩ = some (.int .i64 (S.r : Int)) ∧ V.cell? ⟨p, 3, none⟩ = some (.slice a1 S.cr.length c1) ∧ V.cell? ⟨p, 4, none⟩ = some (.slice (some ⟨g, o, none⟩) 0 0) ∧ V.cell? ⟨p, 5, none⟩ = some (.slice a3' S.far.length c3') ∧ V.cell? ⟨p, 6, none⟩ = some (.slice a4 S.bk.length c4) ∧ V.cell? ⟨cb, 0, none⟩ = some (.int .i64 (q : Int)) ∧ V.cell? ⟨cb, 1, none⟩ = some (.int .u64 xw)) 4 (by kernel_rfl) ?_
    refine wpAnyG_take [4] (some 26) (i := 0) (v := ?vp0) rfl rfl (by kernel_rfl) (by kernel_rfl) (by kernel_rfl) (by kernel_rfl) (fun _ _ _ h => h) (Or.inl ⟨by rfl, ?yp0⟩) S0 ?rp0
    case yp0 => (intro V hSV; obtain ⟨d0, d1, d2, d3, d4, d5, d6, d7, d8⟩ := hSV; go_simp; try with_reducible rfl)
    simp only [Act.put, List.setIfInBounds_toArray, List.set_cons_zero, List.set_cons_succ]
    refine wpAnyG_take [4] (some 27) (i := 1) (v := ?vp1) rfl rfl (by kernel_rfl) (by kernel_rfl) (by kernel_rfl) (by kernel_rfl) (fun _ _ _ h => h) (Or.inl ⟨by rfl, ?yp1⟩) S0 ?rp1
    case yp1 => (intro V hSV; obtain ⟨d0, d1, d2, d3, d4, d5, d6, d7, d8⟩ := hSV; go_simp; try with_reducible rfl)
    simp only [Act.put, List.setIfInBounds_toArray, List.set_cons_zero, List.set_cons_succ]
    clear S0
    have R6 : Hid (Bk w5.drew (p + 1) lz 30) := R5'.out
    have C6 : Hid (Bk w5.drew (p + 1 + 1) #[.int .i64 0, .int .u64 0] 35) := C5'.out
    have B6 : Hid (Below p w w5.drew) := B5.out.drew
    have HOW6 : Hid (Own 3 w5.drew w3.heap.size (.slice a3' S.far.length c3') (vi (S.far.set q (S.far.getD q 0 + 1)))) := HOW5.out
    have hp1 : p + 1 < w3.heap.size := by omega
    have hp2 : p + 1 + 1 < w3.heap.size := by omega
    have P6 : Hid (Bk w5.drew p #[.int .i64 (S.n : Int), .int .i64 (S.d : Int), .int .i64 (S.r : Int), .slice a1 S.cr.length c1, .slice (some ⟨g, o, none⟩) 0 0, .slice a3' S.far.length c3', .slice a4 S.bk.length c4] 30) := P5.out
    have K6 : Hid (Bk w5.drew cb #[.int .i64 (q : Int), .int .u64 xw] 35) := K5.out
    have SS : Hid (∀ V, Bk V p #[.int .i64 (S.n : Int), .int .i64 (S.d : Int), .int .i64 (S.r : Int), .slice a1 S.cr.length c1, .slice (some ⟨g, o, none⟩) 0 0, .slice a3' S.far.length c3', .slice a4 S.bk.length c4] 30 → Bk V cb #[.int .i64 (q : Int), .int .u64 xw] 35 → V.cell? ⟨p, 0, none⟩ = some (.int .i64 (S.n : Int)) ∧ V.cell? ⟨p, 1, none⟩ = some (.int .i64 (S.d : Int)) ∧ V.cell? ⟨p, 2, none⟩ = some (.int .i64 (S.r : Int)) ∧ V.cell? ⟨p, 3, none⟩ = some (.slice a1 S.cr.length c1) ∧ V.cell? ⟨p, 4, none⟩ = some (.slice (some ⟨g, o, none⟩) 0 0) ∧ V.cell? ⟨p, 5, none⟩ = some (.slice a3' S.far.length c3') ∧ V.cell? ⟨p, 6, none⟩ = some (.slice a4 S.bk.length c4) ∧ V.cell? ⟨cb, 0, none⟩ = some (.int .i64 (q : Int)) ∧ V.cell? ⟨cb, 1, none⟩ = some (.int .u64 xw)) := show _ from fun V h1 h2 => ⟨h1.cell 0, h1.cell 1, h1.cell 2, h1.cell 3, h1.cell 4, h1.cell 5, h1.cell 6, h2.cell 0, h2.cell 1⟩
    clear P5 K5 R5' C5' B5 HOW5
    generalize w5.drew = u at *
    have e0 := R6.out.cell 0
    have e1 := R6.out.cell 1
    have e2 := R6.out.cell 2
    have e3 := R6.out.cell 3
    have e4 := R6.out.cell 4
    have e5 := R6.out.cell 5
    have e6 := R6.out.cell 6
    simp only [List.getElem?_toArray, List.getElem?_cons_zero, List.getElem?_cons_succ] at e0 e1 e2 e3 e4 e5 e6
    have z0 := R6.out.free 0
    have z1 := R6.out.free 1
    have z2 := R6.out.free 2
    have z3 := R6.out.free 3
    have z4 := R6.out.free 4
    have z5 := R6.out.free 5
    have z6 := R6.out.free 6
    refine wpAnyG_one (i := 2) (by kernel_rfl) rfl (fun K hK => ?_)
    go_simp
    have P7 : Hid (Bk (((((((u.setCell ⟨p + 1, 0, none⟩ (.int .i64 (S.n : Int))).setCell ⟨p + 1, 1, none⟩ (.int .i64 (S.d : Int))).setCell ⟨p + 1, 2, none⟩ (.int .i64 (S.r : Int))).setCell ⟨p + 1, 3, none⟩ (.slice a1 S.cr.length c1)).setCell ⟨p + 1, 4, none⟩ (.slice (some ⟨g, o, none⟩) 0 0)).setCell ⟨p + 1, 5, none⟩ (.slice a3' S.far.length c3')).setCell ⟨p + 1, 6, none⟩ (.slice a4 S.bk.length c4)) p #[.int .i64 (S.n : Int), .int .i64 (S.d : Int), .int .i64 (S.r : Int), .slice a1 S.cr.length c1, .slice (some ⟨g, o, none⟩) 0 0, .slice a3' S.far.length c3', .slice a4 S.bk.length c4] 30) := seven_far P6.out (by omega) (.int .i64 (S.n : Int)) (.int .i64 (S.d : Int)) (.int .i64 (S.r : Int)) (.slice a1 S.cr.length c1) (.slice (some ⟨g, o, none⟩) 0 0) (.slice a3' S.far.length c3') (.slice a4 S.bk.length c4)
    have K7 : Hid (Bk (((((((u.setCell ⟨p + 1, 0, none⟩ (.int .i64 (S.n : Int))).setCell ⟨p + 1, 1, none⟩ (.int .i64 (S.d : Int))).setCell ⟨p + 1, 2, none⟩ (.int .i64 (S.r : Int))).setCell ⟨p + 1, 3, none⟩ (.slice a1 S.cr.length c1)).setCell ⟨p + 1, 4, none⟩ (.slice (some ⟨g, o, none⟩) 0 0)).setCell ⟨p + 1, 5, none⟩ (.slice a3' S.far.length c3')).setCell ⟨p + 1, 6, none⟩ (.slice a4 S.bk.length c4)) cb #[.int .i64 (q : Int), .int .u64 xw] 35) := seven_far K6.out (by omega) (.int .i64 (S.n : Int)) (.int .i64 (S.d : Int)) (.int .i64 (S.r : Int)) (.slice a1 S.cr.length c1) (.slice (some ⟨g, o, none⟩) 0 0) (.slice a3' S.far.length c3') (.slice a4 S.bk.length c4)
    refine hK.out _ _ (Or.inr (SS.out _ P7.out K7.out)) ?_
    clear hK K P6 K6 e0 e2 e3 e4 e5 e6 z0 z1 z2 z3 z4 z5 z6
    have R7 : Hid (Bk (((((((u.setCell ⟨p + 1, 0, none⟩ (.int .i64 (S.n : Int))).setCell ⟨p + 1, 1, none⟩ (.int .i64 (S.d : Int))).setCell ⟨p + 1, 2, none⟩ (.int .i64 (S.r : Int))).setCell ⟨p + 1, 3, none⟩ (.slice a1 S.cr.length c1)).setCell ⟨p + 1, 4, none⟩ (.slice (some ⟨g, o, none⟩) 0 0)).setCell ⟨p + 1, 5, none⟩ (.slice a3' S.far.length c3')).setCell ⟨p + 1, 6, none⟩ (.slice a4 S.bk.length c4)) (p + 1) #[.int .i64 (S.n : Int), .int .i64 (S.d : Int), .int .i64 (S.r : Int), .slice a1 S.cr.length c1, .slice (some ⟨g, o, none⟩) 0 0, .slice a3' S.far.length c3', .slice a4 S.bk.length c4] 30) := seven_at R6.out (.int .i64 (S.n : Int)) (.int .i64 (S.d : Int)) (.int .i64 (S.r : Int)) (.slice a1 S.cr.length c1) (.slice (some ⟨g, o, none⟩) 0 0) (.slice a3' S.far.length c3') (.slice a4 S.bk.length c4)
    have C7 : Hid (Bk (((((((u.setCell ⟨p + 1, 0, none⟩ (.int .i64 (S.n : Int))).setCell ⟨p + 1, 1, none⟩ (.int .i64 (S.d : Int))).setCell ⟨p + 1, 2, none⟩ (.int .i64 (S.r : Int))).setCell ⟨p + 1, 3, none⟩ (.slice a1 S.cr.length c1)).setCell ⟨p + 1, 4, none⟩ (.slice (some ⟨g, o, none⟩) 0 0)).setCell ⟨p + 1, 5, none⟩ (.slice a3' S.far.length c3')).setCell ⟨p + 1, 6, none⟩ (.slice a4 S.bk.length c4)) (p + 1 + 1) #[.int .i64 0, .int .u64 0] 35) := seven_far C6.out (by omega) (.int .i64 (S.n : Int)) (.int .i64 (S.d : Int)) (.int .i64 (S.r : Int)) (.slice a1 S.cr.length c1) (.slice (some ⟨g, o, none⟩) 0 0) (.slice a3' S.far.length c3') (.slice a4 S.bk.length c4)
    have B7 : Hid (Below p w (((((((u.setCell ⟨p + 1, 0, none⟩ (.int .i64 (S.n : Int))).setCell ⟨p + 1, 1, none⟩ (.int .i64 (S.d : Int))).setCell ⟨p + 1, 2, none⟩ (.int .i64 (S.r : Int))).setCell ⟨p + 1, 3, none⟩ (.slice a1 S.cr.length c1)).setCell ⟨p + 1, 4, none⟩ (.slice (some ⟨g, o, none⟩) 0 0)).setCell ⟨p + 1, 5, none⟩ (.slice a3' S.far.length c3')).setCell ⟨p + 1, 6, none⟩ (.slice a4 S.bk.length c4))) := below_seven B6.out (by omega) _ _ _ _ _ _ _
    have HOW7 : Hid (Own 3 (((((((u.setCell ⟨p + 1, 0, none⟩ (.int .i64 (S.n : Int))).setCell ⟨p + 1, 1, none⟩ (.int .i64 (S.d : Int))).setCell ⟨p + 1, 2, none⟩ (.int .i64 (S.r : Int))).setCell ⟨p + 1, 3, none⟩ (.slice a1 S.cr.length c1)).setCell ⟨p + 1, 4, none⟩ (.slice (some ⟨g, o, none⟩) 0 0)).setCell ⟨p + 1, 5, none⟩ (.slice a3' S.far.length c3')).setCell ⟨p + 1, 6, none⟩ (.slice a4 S.bk.length c4)) w3.heap.size (.slice a3' S.far.length c3') (vi (S.far.set q (S.far.getD q 0 + 1)))) := OwnK.far (k := 1) (OwnK.far (k := 1) (OwnK.far (k := 1) (OwnK.far (k := 1) (OwnK.far (k := 1) (OwnK.far (k := 1) (OwnK.far (k := 1) HOW6.out hp1) hp1) hp1) hp1) hp1) hp1) hp1
    clear R6 C6 B6 HOW6
    generalize ((((((u.setCell ⟨p + 1, 0, none⟩ (.int .i64 (S.n : Int))).setCell ⟨p + 1, 1, none⟩ (.int .i64 (S.d : Int))).setCell ⟨p + 1, 2, none⟩ (.int .i64 (S.r : Int))).setCell ⟨p + 1, 3, none⟩ (.slice a1 S.cr.length c1)).setCell ⟨p + 1, 4, none⟩ (.slice (some ⟨g, o, none⟩) 0 0)).setCell ⟨p + 1, 5, none⟩ (.slice a3' S.far.length c3')).setCell ⟨p + 1, 6, none⟩ (.slice a4 S.bk.length c4) = u2 at *
    have k0 := C7.out.cell 0
    have k1 := C7.out.cell 1
    have j0 := C7.out.free 0
    have j1 := C7.out.free 1
    simp only [List.getElem?_toArray, List.getElem?_cons_zero, List.getElem?_cons_succ] at k0 k1
    refine wpAnyG_one (i := 3) (by kernel_rfl) rfl (fun K hK => ?_)
    go_simp
    have P8 : Hid (Bk ((u2.setCell ⟨p + 1 + 1, 0, none⟩ (.int .i64 (q : Int))).setCell ⟨p + 1 + 1, 1, none⟩ (.int .u64 xw)) p #[.int .i64 (S.n : Int), .int .i64 (S.d : Int), .int .i64 (S.r : Int), .slice a1 S.cr.length c1, .slice (some ⟨g, o, none⟩) 0 0, .slice a3' S.far.length c3', .slice a4 S.bk.length c4] 30) := pair_far P7.out (by omega) _ _
    have K8 : Hid (Bk ((u2.setCell ⟨p + 1 + 1, 0, none⟩ (.int .i64 (q : Int))).setCell ⟨p + 1 + 1, 1, none⟩ (.int .u64 xw)) cb #[.int .i64 (q : Int), .int .u64 xw] 35) := pair_far K7.out (by omega) _ _
    refine hK.out _ _ (Or.inr (SS.out _ P8.out K8.out)) ?_
    clear hK K P7 K7 P8 K8 SS k0 k1 j0 j1
    have R8 : Bk ((u2.setCell ⟨p + 1 + 1, 0, none⟩ (.int .i64 (q : Int))).setCell ⟨p + 1 + 1, 1, none⟩ (.int .u64 xw)) (p + 1) #[.int .i64 (S.n : Int), .int .i64 (S.d : Int), .int .i64 (S.r : Int), .slice a1 S.cr.length c1, .slice (some ⟨g, o, none⟩) 0 0, .slice a3' S.far.length c3', .slice a4 S.bk.length c4] 30 := pair_far R7.out (by omega) _ _
    have C8 : Bk ((u2.setCell ⟨p + 1 + 1, 0, none⟩ (.int .i64 (q : Int))).setCell ⟨p + 1 + 1, 1, none⟩ (.int .u64 xw)) (p + 1 + 1) #[.int .i64 (q : Int), .int .u64 xw] 35 := pair_at C7.out _ _
    have B8 : Hid (Below p w ((u2.setCell ⟨p + 1 + 1, 0, none⟩ (.int .i64 (q : Int))).setCell ⟨p + 1 + 1, 1, none⟩ (.int .u64 xw))) := (B7.out.setCell (by show p ≤ p + 1 + 1; omega) _).setCell (by show p ≤ p + 1 + 1; omega) _
    have HOW8 : Own 3 ((u2.setCell ⟨p + 1 + 1, 0, none⟩ (.int .i64 (q : Int))).setCell ⟨p + 1 + 1, 1, none⟩ (.int .u64 xw)) w3.heap.size (.slice a3' S.far.length c3') (vi (S.far.set q (S.far.getD q 0 + 1))) := OwnK.far (k := 1) (OwnK.far (k := 1) HOW7.out hp2) hp2
    clear R7 C7 B7 HOW7
    generalize (u2.setCell ⟨p + 1 + 1, 0, none⟩ (.int .i64 (q : Int))).setCell ⟨p + 1 + 1, 1, none⟩ (.int .u64 xw) = u3 at *
    refine wpAnyG_one (i := 4) (by kernel_rfl) rfl (fun K hK => ?_)
    go_simp
    refine hK.out _ _ (Or.inl (by kernel_rfl)) ?_
    clear hK K
    refine wpAnyG_done (by kernel_rfl) ?_ _
    have RR : Hid (Rd u3 a3' (vi (S.far.set q (S.far.getD q 0 + 1)))) := show Rd _ _ _ from by
      obtain ⟨a, cap, e, _, _, r⟩ := HOW8.rd
      simp only [Value.slice.injEq] at e
      obtain ⟨rfl, -, rfl⟩ := e
      exact r
    have NW : Hid (New p _ a3') := (New.of (k := 1) HOW8).mono (by omega)
    clear HOW8
    have y0 := R8.cell 0
    have y1 := R8.cell 1
    have y2 := R8.cell 2
    have y3 := R8.cell 3
    have y4 := R8.cell 4
    have y5 := R8.cell 5
    have y6 := R8.cell 6
    simp only [List.getElem?_toArray, List.getElem?_cons_zero, List.getElem?_cons_succ] at y0 y1 y2 y3 y4 y5 y6
    have x0 := C8.cell 0
    have x1 := C8.cell 1
    simp only [List.getElem?_toArray, List.getElem?_cons_zero, List.getElem?_cons_succ] at x0 x1
    clear R8 C8
    go_wp2
    refine bodyPost_ret (v := .tuple #[.agg #[.int .i64 (S.n : Int), .int .i64 (S.d : Int), .int .i64 (S.r : Int), .slice a1 S.cr.length c1, .slice (some ⟨g, o, none⟩) 0 0, .slice a3' S.far.length c3', .slice a4 S.bk.length c4], .agg #[.int .i64 (q : Int), .int .u64 xw], .int .i64 0]) (by simp [results, Try.results35, go_sem, y0, y1, y2, y3, y4, y5, y6, x0, x1]; try rfl) rfl ⟨_, rfl, ⟨a1, (some ⟨g, o, none⟩), a3', a4, c1, 0, c3', c4, ?_, ⟨R1.out.below (by rw [HP.out]; exact B8.out), ?_, RR.out, R4.out.below (by rw [HP.out]; exact B8.out)⟩, ?_, X4.out⟩, by rw [HP.out]; exact B8.out, by rw [HP.out]; exact src_mk (Fro.refl _ _ _) (Fro.shift _ _ _ _ _ _ _) (Fro.new NW.out) (Fro.refl _ _ _)⟩
    · unfold lsv
      simp only [List.length_set, HMM.out]
    · obtain rfl := List.eq_nil_of_length_eq_zero HMM.out
      exact fun j v hj => (by cases hj)
    · refine ⟨by rw [HMM.out]; omega, by unfold maxLen; omega, fun h => (by cases h)⟩
  · skip
    go_upto_region 5 with fail
    have P3 : Hid (Bk (w1.setCell ⟨p, 4, none⟩ (.slice (some ⟨g, o + 2, none⟩) m (c2 - 1))) p #[.int .i64 (S.n : Int), .int .i64 (S.d : Int), .int .i64 (S.r : Int), .slice a1 S.cr.length c1, .slice (some ⟨g, o + 2, none⟩) m (c2 - 1), .slice a3 S.far.length c3, .slice a4 S.bk.length c4] 30) := show Bk _ _ _ _ from by simpa using P1.out.set 4 (.slice (some ⟨g, o + 2, none⟩) m (c2 - 1))
    have R3' : Hid (Bk (w1.setCell ⟨p, 4, none⟩ (.slice (some ⟨g, o + 2, none⟩) m (c2 - 1))) (p + 1) lz 30) := R1'.out.far (by omega)
    have C3' : Hid (Bk (w1.setCell ⟨p, 4, none⟩ (.slice (some ⟨g, o + 2, none⟩) m (c2 - 1))) (p + 1 + 1) #[.int .i64 0, .int .u64 0] 35) := C1'.out.far (by omega)
    have K3 : Hid (Bk (w1.setCell ⟨p, 4, none⟩ (.slice (some ⟨g, o + 2, none⟩) m (c2 - 1))) cb #[.int .i64 (q : Int), .int .u64 xw] 35) := K1.out.far (by omega)
    have B3 : Hid (Below p w (w1.setCell ⟨p, 4, none⟩ (.slice (some ⟨g, o + 2, none⟩) m (c2 - 1)))) := B1.out.setCell (Nat.le_refl _) _
    have hcz3 : cb < (w1.setCell ⟨p, 4, none⟩ (.slice (some ⟨g, o + 2, none⟩) m (c2 - 1))).heap.size := K3.out.lt
    clear P1 R1' C1' K1 B1 c4' z4'
    generalize w1.setCell ⟨p, 4, none⟩ (.slice (some ⟨g, o + 2, none⟩) m (c2 - 1)) = w3 at *
    have RD3 : Rd w3 a3 (vi S.far) := R3.out.below (by rw [HP.out]; exact B3.out)
    have WC3 := WC w3 RD3
    have d0 := P3.out.cell 0
    have d1 := P3.out.cell 1
    have d2 := P3.out.cell 2
    have d3 := P3.out.cell 3
    have d4 := P3.out.cell 4
    have d5 := P3.out.cell 5
    have d6 := P3.out.cell 6
    simp only [List.getElem?_toArray, List.getElem?_cons_zero, List.getElem?_cons_succ] at d0 d1 d2 d3 d4 d5 d6
    have k0 := K3.out.cell 0
    have k1 := K3.out.cell 1
    simp only [List.getElem?_toArray, List.getElem?_cons_zero, List.getElem?_cons_succ] at k0 k1
    go_wp2_with fail
    go_at_call 48
    with_reducible refine WC3.mono ?_
    rintro e w4 ⟨nv, rfl, ow, h4⟩
    obtain ⟨a3', c3', rfl, -, -, rd3⟩ := ow.rd
    have LQ : (vi (S.far.set q (S.far.getD q 0 + 1))).length = S.far.length := by rw [vi_len, List.length_set]
    rw [LQ]
    have HOW : Hid (Own 3 w4 w3.heap.size (.slice a3' S.far.length c3') (vi (S.far.set q (S.far.getD q 0 + 1)))) := (LQ ▸ ow : Own 3 w4 w3.heap.size (.slice a3' S.far.length c3') (vi (S.far.set q (S.far.getD q 0 + 1))))
    have P4 : Hid (Bk w4 p #[.int .i64 (S.n : Int), .int .i64 (S.d : Int), .int .i64 (S.r : Int), .slice a1 S.cr.length c1, .slice (some ⟨g, o + 2, none⟩) m (c2 - 1), .slice a3 S.far.length c3, .slice a4 S.bk.length c4] 30) := P3.out.next h4
    have R4' : Hid (Bk w4 (p + 1) lz 30) := R3'.out.next h4
    have C4' : Hid (Bk w4 (p + 1 + 1) #[.int .i64 0, .int .u64 0] 35) := C3'.out.next h4
    have K4 : Hid (Bk w4 cb #[.int .i64 (q : Int), .int .u64 xw] 35) := K3.out.next h4
    have hps : p ≤ w3.heap.size := Nat.le_of_lt P3.out.lt
    have B4 : Hid (Below p w w4) := B3.out.trans (h4.mono hps)
    clear WC WC3 RD3 ow rd3 h4 P3 R3' C3' K3 B3 d0 d1 d2 d3 d4 d5 d6 k0 k1
    have d5 := P4.out.cell 5
    have z5 := P4.out.free 5
    simp only [List.getElem?_toArray, List.getElem?_cons_zero, List.getElem?_cons_succ] at d5
    go_upto_region 6 with fail
    have P5 : Hid (Bk (w4.setCell ⟨p, 5, none⟩ (.slice a3' S.far.length c3')) p #[.int .i64 (S.n : Int), .int .i64 (S.d : Int), .int .i64 (S.r : Int), .slice a1 S.cr.length c1, .slice (some ⟨g, o + 2, none⟩) m (c2 - 1), .slice a3' S.far.length c3', .slice a4 S.bk.length c4] 30) := show Bk _ _ _ _ from by simpa using P4.out.set 5 (.slice a3' S.far.length c3')
    have R5' : Hid (Bk (w4.setCell ⟨p, 5, none⟩ (.slice a3' S.far.length c3')) (p + 1) lz 30) := R4'.out.far (by omega)
    have C5' : Hid (Bk (w4.setCell ⟨p, 5, none⟩ (.slice a3' S.far.length c3')) (p + 1 + 1) #[.int .i64 0, .int .u64 0] 35) := C4'.out.far (by omega)
    have K5 : Hid (Bk (w4.setCell ⟨p, 5, none⟩ (.slice a3' S.far.length c3')) cb #[.int .i64 (q : Int), .int .u64 xw] 35) := K4.out.far (by omega)
    have B5 : Hid (Below p w (w4.setCell ⟨p, 5, none⟩ (.slice a3' S.far.length c3'))) := B4.out.setCell (Nat.le_refl _) _
    have HOW5 : Hid (Own 3 (w4.setCell ⟨p, 5, none⟩ (.slice a3' S.far.length c3')) w3.heap.size (.slice a3' S.far.length c3') (vi (S.far.set q (S.far.getD q 0 + 1)))) := OwnK.far (k := 1) HOW.out (by omega)
    clear P4 R4' C4' K4 B4 HOW d5 z5
    generalize w4.setCell ⟨p, 5, none⟩ (.slice a3' S.far.length c3') = w5 at *
    have S0 : (fun V : World => V.cell? ⟨p, 0, none⟩ = some (.int .i64 (S.n : Int)) ∧ V.cell? ⟨p, 1, none⟩ = some (.int .i64 (S.d : Int)) ∧ V.cell? ⟨p, 2, none⟩ = some (.int .i64 (S.r : Int)) ∧ V.cell? ⟨p, 3, none⟩ = some (.slice a1 S.cr.length c1) ∧ V.cell? ⟨p, 4, none⟩ = some (.slice (some ⟨g, o + 2, none⟩) m (c2 - 1)) ∧ V.cell? ⟨p, 5, none⟩ = some (.slice a3' S.far.length c3') ∧ V.cell? ⟨p, 6, none⟩ = some (.slice a4 S.bk.length c4) ∧ V.cell? ⟨cb, 0, none⟩ = some (.int .i64 (q : Int)) ∧ V.cell? ⟨cb, 1, none⟩ = some (.int .u64 xw)) w5.drew := ⟨P5.out.cell 0, P5.out.cell 1, P5.out.cell 2, P5.out.cell 3, P5.out.cell 4, P5.out.cell 5, P5.out.cell 6, K5.out.cell 0, K5.out.cell 1⟩
    refine wp_region_G (fun V : World => V.cell? ⟨p, 0, none⟩ = some (.int .i64 (S.n : Int)) ∧ V.cell? ⟨p, 1, none⟩ = some (.int .i64 (S.d : Int)) ∧ V.cell? ⟨p, 2, none⟩ = some (.int .i64 (S.r : Int)) ∧ V.cell? ⟨p, 3, none⟩ = some (.slice a1 S.cr.length c1) ∧ V.cell? ⟨p, 4, none⟩ = some (.slice (some ⟨g, o + 2, none⟩) m (c2 - 1)) ∧ V.cell? ⟨p, 5, none⟩ = some (.slice a3' S.far.length c3') ∧ V.cell? ⟨p, 6, none⟩ = some (.slice a4 S.bk.length c4) ∧ V.cell? ⟨cb, 0, none⟩ = some (.int .i64 (q : Int)) ∧ V.cell? ⟨cb, 1, none⟩ = some (.int .u64 xw)) 4 (by kernel_rfl) ?_
    refine wpAnyG_take [4] (some 26) (i := 0) (v := ?vn0) rfl rfl (by kernel_rfl) (by kernel_rfl) (by kernel_rfl) (by kernel_rfl) (fun _ _ _ h => h) (Or.inl ⟨by rfl, ?yn0⟩) S0 ?rn0
    case yn0 => (intro V hSV; obtain ⟨d0, d1, d2, d3, d4, d5, d6, d7, d8⟩ := hSV; go_simp; try with_reducible rfl)
    simp only [Act.put, List.setIfInBounds_toArray, List.set_cons_zero, List.set_cons_succ]
    refine wpAnyG_take [4] (some 27) (i := 1) (v := ?vn1) rfl rfl (by kernel_rfl) (by kernel_rfl) (by kernel_rfl) (by kernel_rfl) (fun _ _ _ h => h) (Or.inl ⟨by rfl, ?yn1⟩) S0 ?rn1
    case yn1 => (intro V hSV; obtain ⟨d0, d1, d2, d3, d4, d5, d6, d7, d8⟩ := hSV; go_simp; try with_reducible rfl)
    simp only [Act.put, List.setIfInBounds_toArray, List.set_cons_zero, List.set_cons_succ]
    clear S0
    have R6 : Hid (Bk w5.drew (p + 1) lz 30) := R5'.out
    have C6 : Hid (Bk w5.drew (p + 1 + 1) #[.int .i64 0, .int .u64 0] 35) := C5'.out
    have B6 : Hid (Below p w w5.drew) := B5.out.drew
    have HOW6 : Hid (Own 3 w5.drew w3.heap.size (.slice a3' S.far.length c3') (vi (S.far.set q (S.far.getD q 0 + 1)))) := HOW5.out
    have hp1 : p + 1 < w3.heap.size := by omega
    have hp2 : p + 1 + 1 < w3.heap.size := by omega
    have P6 : Hid (Bk w5.drew p #[.int .i64 (S.n : Int), .int .i64 (S.d : Int), .int .i64 (S.r : Int), .slice a1 S.cr.length c1, .slice (some ⟨g, o + 2, none⟩) m (c2 - 1), .slice a3' S.far.length c3', .slice a4 S.bk.length c4] 30) := P5.out
    have K6 : Hid (Bk w5.drew cb #[.int .i64 (q : Int), .int .u64 xw] 35) := K5.out
    have SS : Hid (∀ V, Bk V p #[.int .i64 (S.n : Int), .int .i64 (S.d : Int), .int .i64 (S.r : Int), .slice a1 S.cr.length c1, .slice (some ⟨g, o + 2, none⟩) m (c2 - 1), .slice a3' S.far.length c3', .slice a4 S.bk.length c4] 30 → Bk V cb #[.int .i64 (q : Int), .int .u64 xw] 35 → V.cell? ⟨p, 0, none⟩ = some (.int .i64 (S.n : Int)) ∧ V.cell? ⟨p, 1, none⟩ = some (.int .i64 (S.d : Int)) ∧ V.cell? ⟨p, 2, none⟩ = some (.int .i64 (S.r : Int)) ∧ V.cell? ⟨p, 3, none⟩ = some (.slice a1 S.cr.length c1) ∧ V.cell? ⟨p, 4, none⟩ = some (.slice (some ⟨g, o + 2, none⟩) m (c2 - 1)) ∧ V.cell? ⟨p, 5, none⟩ = some (.slice a3' S.far.length c3') ∧ V.cell? ⟨p, 6, none⟩ = some (.slice a4 S.bk.length c4) ∧ V.cell? ⟨cb, 0, none⟩ = some (.int .i64 (q : Int)) ∧ V.cell? ⟨cb, 1, none⟩ = some (.int .u64 xw)) := show _ from fun V h1 h2 => ⟨h1.cell 0, h1.cell 1, h1.cell 2, h1.cell 3, h1.cell 4, h1.cell 5, h1.cell 6, h2.cell 0, h2.cell 1⟩
    clear P5 K5 R5' C5' B5 HOW5
    generalize w5.drew = u at *
    have e0 := R6.out.cell 0
    have e1 := R6.out.cell 1
    have e2 := R6.out.cell 2
    have e3 := R6.out.cell 3
    have e4 := R6.out.cell 4
    have e5 := R6.out.cell 5
    have e6 := R6.out.cell 6
    simp only [List.getElem?_toArray, List.getElem?_cons_zero, List.getElem?_cons_succ] at e0 e1 e2 e3 e4 e5 e6
    have z0 := R6.out.free 0
    have z1 := R6.out.free 1
    have z2 := R6.out.free 2
    have z3 := R6.out.free 3
    have z4 := R6.out.free 4
    have z5 := R6.out.free 5
    have z6 := R6.out.free 6
    refine wpAnyG_one (i := 2) (by kernel_rfl) rfl (fun K hK => ?_)
    go_simp
    have P7 : Hid (Bk (((((((u.setCell ⟨p + 1, 0, none⟩ (.int .i64 (S.n : Int))).setCell ⟨p + 1, 1, none⟩ (.int .i64 (S.d : Int))).setCell ⟨p + 1, 2, none⟩ (.int .i64 (S.r : Int))).setCell ⟨p + 1, 3, none⟩ (.slice a1 S.cr.length c1)).setCell ⟨p + 1, 4, none⟩ (.slice (some ⟨g, o + 2, none⟩) m (c2 - 1))).setCell ⟨p + 1, 5, none⟩ (.slice a3' S.far.length c3')).setCell ⟨p + 1, 6, none⟩ (.slice a4 S.bk.length c4)) p #[.int .i64 (S.n : Int), .int .i64 (S.d : Int), .int .i64 (S.r : Int), .slice a1 S.cr.length c1, .slice (some ⟨g, o + 2, none⟩) m (c2 - 1), .slice a3' S.far.length c3', .slice a4 S.bk.length c4] 30) := seven_far P6.out (by omega) (.int .i64 (S.n : Int)) (.int .i64 (S.d : Int)) (.int .i64 (S.r : Int)) (.slice a1 S.cr.length c1) (.slice (some ⟨g, o + 2, none⟩) m (c2 - 1)) (.slice a3' S.far.length c3') (.slice a4 S.bk.length c4)
    have K7 : Hid (Bk (((((((u.setCell ⟨p + 1, 0, none⟩ (.int .i64 (S.n : Int))).setCell ⟨p + 1, 1, none⟩ (.int .i64 (S.d : Int))).setCell ⟨p + 1, 2, none⟩ (.int .i64 (S.r : Int))).setCell ⟨p + 1, 3, none⟩ (.slice a1 S.cr.length c1)).setCell ⟨p + 1, 4, none⟩ (.slice (some ⟨g, o + 2, none⟩) m (c2 - 1))).setCell ⟨p + 1, 5, none⟩ (.slice a3' S.far.length c3')).setCell ⟨p + 1, 6, none⟩ (.slice a4 S.bk.length c4)) cb #[.int .i64 (q : Int), .int .u64 xw] 35) := seven_far K6.out (by omega) (.int .i64 (S.n : Int)) (.int .i64 (S.d : Int)) (.int .i64 (S.r : Int)) (.slice a1 S.cr.length c1) (.slice (some ⟨g, o + 2, none⟩) m (c2 - 1)) (.slice a3' S.far.length c3') (.slice a4 S.bk.length c4)
    refine hK.out _ _ (Or.inr (SS.out _ P7.out K7.out)) ?_
    clear hK K P6 K6 e0 e2 e3 e4 e5 e6 z0 z1 z2 z3 z4 z5 z6
    have R7 : Hid (Bk (((((((u.setCell ⟨p + 1, 0, none⟩ (.int .i64 (S.n : Int))).setCell ⟨p + 1, 1, none⟩ (.int .i64 (S.d : Int))).setCell ⟨p + 1, 2, none⟩ (.int .i64 (S.r : Int))).setCell ⟨p + 1, 3, none⟩ (.slice a1 S.cr.length c1)).setCell ⟨p + 1, 4, none⟩ (.slice (some ⟨g, o + 2, none⟩) m (c2 - 1))).setCell ⟨p + 1, 5, none⟩ (.slice a3' S.far.length c3')).setCell ⟨p + 1, 6, none⟩ (.slice a4 S.bk.length c4)) (p + 1) #[.int .i64 (S.n : Int), .int .i64 (S.d : Int), .int .i64 (S.r : Int), .slice a1 S.cr.length c1, .slice (some ⟨g, o + 2, none⟩) m (c2 - 1), .slice a3' S.far.length c3', .slice a4 S.bk.length c4] 30) := seven_at R6.out (.int .i64 (S.n : Int)) (.int .i64 (S.d : Int)) (.int .i64 (S.r : Int)) (.slice a1 S.cr.length c1) (.slice (some ⟨g, o + 2, none⟩) m (c2 - 1)) (.slice a3' S.far.length c3') (.slice a4 S.bk.length c4)
    have C7 : Hid (Bk (((((((u.setCell ⟨p + 1, 0, none⟩ (.int .i64 (S.n : Int))).setCell ⟨p + 1, 1, none⟩ (.int .i64 (S.d : Int))).setCell ⟨p + 1, 2, none⟩ (.int .i64 (S.r : Int))).setCell ⟨p + 1, 3, none⟩ (.slice a1 S.cr.length c1)).setCell ⟨p + 1, 4, none⟩ (.slice (some ⟨g, o + 2, none⟩) m (c2 - 1))).setCell ⟨p + 1, 5, none⟩ (.slice a3' S.far.length c3')).setCell ⟨p + 1, 6, none⟩ (.slice a4 S.bk.length c4)) (p + 1 + 1) #[.int .i64 0, .int .u64 0] 35) := seven_far C6.out (by omega) (.int .i64 (S.n : Int)) (.int .i64 (S.d : Int)) (.int .i64 (S.r : Int)) (.slice a1 S.cr.length c1) (.slice (some ⟨g, o + 2, none⟩) m (c2 - 1)) (.slice a3' S.far.length c3') (.slice a4 S.bk.length c4)
    have B7 : Hid (Below p w (((((((u.setCell ⟨p + 1, 0, none⟩ (.int .i64 (S.n : Int))).setCell ⟨p + 1, 1, none⟩ (.int .i64 (S.d : Int))).setCell ⟨p + 1, 2, none⟩ (.int .i64 (S.r : Int))).setCell ⟨p + 1, 3, none⟩ (.slice a1 S.cr.length c1)).setCell ⟨p + 1, 4, none⟩ (.slice (some ⟨g, o + 2, none⟩) m (c2 - 1))).setCell ⟨p + 1, 5, none⟩ (.slice a3' S.far.length c3')).setCell ⟨p + 1, 6, none⟩ (.slice a4 S.bk.length c4))) := below_seven B6.out (by omega) _ _ _ _ _ _ _
    have HOW7 : Hid (Own 3 (((((((u.setCell ⟨p + 1, 0, none⟩ (.int .i64 (S.n : Int))).setCell ⟨p + 1, 1, none⟩ (.int .i64 (S.d : Int))).setCell ⟨p + 1, 2, none⟩ (.int .i64 (S.r : Int))).setCell ⟨p + 1, 3, none⟩ (.slice a1 S.cr.length c1)).setCell ⟨p + 1, 4, none⟩ (.slice (some ⟨g, o + 2, none⟩) m (c2 - 1))).setCell ⟨p + 1, 5, none⟩ (.slice a3' S.far.length c3')).setCell ⟨p + 1, 6, none⟩ (.slice a4 S.bk.length c4)) w3.heap.size (.slice a3' S.far.length c3') (vi (S.far.set q (S.far.getD q 0 + 1)))) := OwnK.far (k := 1) (OwnK.far (k := 1) (OwnK.far (k := 1) (OwnK.far (k := 1) (OwnK.far (k := 1) (OwnK.far (k := 1) (OwnK.far (k := 1) HOW6.out hp1) hp1) hp1) hp1) hp1) hp1) hp1
    clear R6 C6 B6 HOW6
    generalize ((((((u.setCell ⟨p + 1, 0, none⟩ (.int .i64 (S.n : Int))).setCell ⟨p + 1, 1, none⟩ (.int .i64 (S.d : Int))).setCell ⟨p + 1, 2, none⟩ (.int .i64 (S.r : Int))).setCell ⟨p + 1, 3, none⟩ (.slice a1 S.cr.length c1)).setCell ⟨p + 1, 4, none⟩ (.slice (some ⟨g, o + 2, none⟩) m (c2 - 1))).setCell ⟨p + 1, 5, none⟩ (.slice a3' S.far.length c3')).setCell ⟨p + 1, 6, none⟩ (.slice a4 S.bk.length c4) = u2 at *
    have k0 := C7.out.cell 0
    have k1 := C7.out.cell 1
    have j0 := C7.out.free 0
    have j1 := C7.out.free 1
    simp only [List.getElem?_toArray, List.getElem?_cons_zero, List.getElem?_cons_succ] at k0 k1
    refine wpAnyG_one (i := 3) (by kernel_rfl) rfl (fun K hK => ?_)
    go_simp
    have P8 : Hid (Bk ((u2.setCell ⟨p + 1 + 1, 0, none⟩ (.int .i64 (q : Int))).setCell ⟨p + 1 + 1, 1, none⟩ (.int .u64 xw)) p #[.int .i64 (S.n : Int), .int .i64 (S.d : Int), .int .i64 (S.r : Int), .slice a1 S.cr.length c1, .slice (some ⟨g, o + 2, none⟩) m (c2 - 1), .slice a3' S.far.length c3', .slice a4 S.bk.length c4] 30) := pair_far P7.out (by omega) _ _
    have K8 : Hid (Bk ((u2.setCell ⟨p + 1 + 1, 0, none⟩ (.int .i64 (q : Int))).setCell ⟨p + 1 + 1, 1, none⟩ (.int .u64 xw)) cb #[.int .i64 (q : Int), .int .u64 xw] 35) := pair_far K7.out (by omega) _ _
    refine hK.out _ _ (Or.inr (SS.out _ P8.out K8.out)) ?_
    clear hK K P7 K7 P8 K8 SS k0 k1 j0 j1
    have R8 : Bk ((u2.setCell ⟨p + 1 + 1, 0, none⟩ (.int .i64 (q : Int))).setCell ⟨p + 1 + 1, 1, none⟩ (.int .u64 xw)) (p + 1) #[.int .i64 (S.n : Int), .int .i64 (S.d : Int), .int .i64 (S.r : Int), .slice a1 S.cr.length c1, .slice (some ⟨g, o + 2, none⟩) m (c2 - 1), .slice a3' S.far.length c3', .slice a4 S.bk.length c4] 30 := pair_far R7.out (by omega) _ _
    have C8 : Bk ((u2.setCell ⟨p + 1 + 1, 0, none⟩ (.int .i64 (q : Int))).setCell ⟨p + 1 + 1, 1, none⟩ (.int .u64 xw)) (p + 1 + 1) #[.int .i64 (q : Int), .int .u64 xw] 35 := pair_at C7.out _ _
    have B8 : Hid (Below p w ((u2.setCell ⟨p + 1 + 1, 0, none⟩ (.int .i64 (q : Int))).setCell ⟨p + 1 + 1, 1, none⟩ (.int .u64 xw))) := (B7.out.setCell (by show p ≤ p + 1 + 1; omega) _).setCell (by show p ≤ p + 1 + 1; omega) _
    have HOW8 : Own 3 ((u2.setCell ⟨p + 1 + 1, 0, none⟩ (.int .i64 (q : Int))).setCell ⟨p + 1 + 1, 1, none⟩ (.int .u64 xw)) w3.heap.size (.slice a3' S.far.length c3') (vi (S.far.set q (S.far.getD q 0 + 1))) := OwnK.far (k := 1) (OwnK.far (k := 1) HOW7.out hp2) hp2
    clear R7 C7 B7 HOW7
    generalize (u2.setCell ⟨p + 1 + 1, 0, none⟩ (.int .i64 (q : Int))).setCell ⟨p + 1 + 1, 1, none⟩ (.int .u64 xw) = u3 at *
    refine wpAnyG_one (i := 4) (by kernel_rfl) rfl (fun K hK => ?_)
    go_simp
    refine hK.out _ _ (Or.inl (by kernel_rfl)) ?_
    clear hK K
    refine wpAnyG_done (by kernel_rfl) ?_ _
    have RR : Hid (Rd u3 a3' (vi (S.far.set q (S.far.getD q 0 + 1)))) := show Rd _ _ _ from by
      obtain ⟨a, cap, e, _, _, r⟩ := HOW8.rd
      simp only [Value.slice.injEq] at e
      obtain ⟨rfl, -, rfl⟩ := e
      exact r
    have NW : Hid (New p _ a3') := (New.of (k := 1) HOW8).mono (by omega)
    clear HOW8
    have y0 := R8.cell 0
    have y1 := R8.cell 1
    have y2 := R8.cell 2
    have y3 := R8.cell 3
    have y4 := R8.cell 4
    have y5 := R8.cell 5
    have y6 := R8.cell 6
    simp only [List.getElem?_toArray, List.getElem?_cons_zero, List.getElem?_cons_succ] at y0 y1 y2 y3 y4 y5 y6
    have x0 := C8.cell 0
    have x1 := C8.cell 1
    simp only [List.getElem?_toArray, List.getElem?_cons_zero, List.getElem?_cons_succ] at x0 x1
    clear R8 C8
    go_wp2
    refine bodyPost_ret (v := .tuple #[.agg #[.int .i64 (S.n : Int), .int .i64 (S.d : Int), .int .i64 (S.r : Int), .slice a1 S.cr.length c1, .slice (some ⟨g, o + 2, none⟩) m (c2 - 1), .slice a3' S.far.length c3', .slice a4 S.bk.length c4], .agg #[.int .i64 (q : Int), .int .u64 xw], .int .i64 0]) (by simp [results, Try.results35, go_sem, y0, y1, y2, y3, y4, y5, y6, x0, x1]; try rfl) rfl ⟨_, rfl, ⟨a1, (some ⟨g, o + 2, none⟩), a3', a4, c1, (c2 - 1), c3', c4, ?_, ⟨R1.out.below (by rw [HP.out]; exact B8.out), ?_, RR.out, R4.out.below (by rw [HP.out]; exact B8.out)⟩, ?_, X4.out⟩, by rw [HP.out]; exact B8.out, by rw [HP.out]; exact src_mk (Fro.refl _ _ _) (Fro.shift _ _ _ _ _ _ _) (Fro.new NW.out) (Fro.refl _ _ _)⟩
    · unfold lsv
      simp only [List.length_set, HMM.out]
    · exact rd_tail2 (R2.out.below (by rw [HP.out]; exact B8.out))
    · refine ⟨by rw [HMM.out]; omega, by unfold maxLen; omega, fun h => (by cases h)⟩
end Go.Proofs.Ytihfekcdghmkhaa
