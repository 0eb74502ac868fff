/-
  The document's link in memory; the walk of its Credit.
-/
import Derived.Test.YtihfekcdghmkhaaLCount
import Derived.Test.YtihfekcdghmkhaaStage
namespace Go.Proofs.Ytihfekcdghmkhaa
open Go.RowKit
open RC (Cl cc cv zc cc_len cc_at)

/-- The document's link, as a value in a world. -/
def RefAt (w : World) (v : Value) (S : LS) : Prop :=
  ∃ a1 a2 a3 a4 c1 c2 c3 c4, v = lsv S a1 a2 a3 a4 c1 c2 c3 c4 ∧ (Rd w a1 (vi S.cr) ∧ Rd w a2 (S.ws.flatMap cc) ∧ Rd w a3 (vi S.far) ∧ Rd w a4 (vi S.bk)) ∧
    (S.ws.length ≤ c2 ∧ c2 ≤ maxLen ∧ (a2 = none → S.ws.length = 0 ∧ c2 = 0)) ∧ (S.bk.length ≤ c4 ∧ c4 ≤ maxLen ∧ (a4 = none → S.bk.length = 0 ∧ c4 = 0))
theorem RefAt.below {w w' : World} {v : Value} {S : LS} (h : RefAt w v S) (b : Below w.heap.size w w') : RefAt w' v S := by
  obtain ⟨a1, a2, a3, a4, c1, c2, c3, c4, e, ⟨h1, h2, h3, h4⟩, r⟩ := h
  exact ⟨a1, a2, a3, a4, c1, c2, c3, c4, e, ⟨h1.below b, h2.below b, h3.below b, h4.below b⟩, r⟩
theorem seven_at {v : World} {b : Nat} {y0 y1 y2 y3 y4 y5 y6 : Value} {t : TypeId} (h : Bk v b #[y0, y1, y2, y3, y4, y5, y6] t) (x0 x1 x2 x3 x4 x5 x6 : Value) : Bk (((((((v.setCell ⟨b, 0, none⟩ x0).setCell ⟨b, 1, none⟩ x1).setCell ⟨b, 2, none⟩ x2).setCell ⟨b, 3, none⟩ x3).setCell ⟨b, 4, none⟩ x4).setCell ⟨b, 5, none⟩ x5).setCell ⟨b, 6, none⟩ x6) b #[x0, x1, x2, x3, x4, x5, x6] t := by
  have := ((((((h.set 0 x0).set 1 x1).set 2 x2).set 3 x3).set 4 x4).set 5 x5).set 6 x6
  simpa using this
theorem below_seven {w v : World} {B b : Nat} (h : Below B w v) (hb : B ≤ b) (x0 x1 x2 x3 x4 x5 x6 : Value) : Below B w (((((((v.setCell ⟨b, 0, none⟩ x0).setCell ⟨b, 1, none⟩ x1).setCell ⟨b, 2, none⟩ x2).setCell ⟨b, 3, none⟩ x3).setCell ⟨b, 4, none⟩ x4).setCell ⟨b, 5, none⟩ x5).setCell ⟨b, 6, none⟩ x6) :=
  ((((((h.setCell hb _).setCell hb _).setCell hb _).setCell hb _).setCell hb _).setCell hb _).setCell hb _
/-- Two new blocks of a link each. -/
theorem two_links (w : World) (t : TypeId) (cs ds : Array Value) : Bk ((w.alloc (.cells cs t)).alloc (.cells ds t)) w.heap.size cs t ∧ Bk ((w.alloc (.cells cs t)).alloc (.cells ds t)) (w.heap.size + 1) ds t ∧ Below w.heap.size w ((w.alloc (.cells cs t)).alloc (.cells ds t)) := by
  refine ⟨(Bk.new _ _ _).alloc _, ?_, ((Below.refl _ _).alloc (Nat.le_refl _) _).alloc (by simp) _⟩
  have := Bk.new (w.alloc (.cells cs t)) ds t
  rwa [show (w.alloc (.cells cs t)).heap.size = w.heap.size + 1 by simp] at this
def credS (S : LS) : LS := if S.bk = [] then S else { S with cr := S.cr.set (S.bk.headD 0).toNat (S.cr.getD (S.bk.headD 0).toNat 0 + 1), bk := S.bk.tail }
def credE (S : LS) : Int := if S.bk = [] then 8 else 0

set_option maxRecDepth 100000 in
set_option maxHeartbeats 8000000 in
theorem cred_none (S : LS) (v : Value) (w : World) (hv : RefAt w v S) (hb : S.bk = []) :
    Calls Try.prog 37 #[v] w fun e w' => e = .returned (.tuple #[v, .int .i64 8]) ∧ Below w.heap.size w w' := by
  obtain ⟨a1, a2, a3, a4, c1, c2, c3, c4, rfl, -, -, -⟩ := hv
  unfold lsv
  rw [hb]
  simp only [List.length_nil]
  obtain ⟨q1, q2, q3⟩ := two_links w 30 #[.int .i64 (S.n : Int), .int .i64 (S.d : Int), .int .i64 (S.r : Int), .slice a1 S.cr.length c1, .slice a2 S.ws.length c2, .slice a3 S.far.length c3, .slice a4 0 c4] lz
  have P0 : Hid (Bk _ w.heap.size #[.int .i64 (S.n : Int), .int .i64 (S.d : Int), .int .i64 (S.r : Int), .slice a1 S.cr.length c1, .slice a2 S.ws.length c2, .slice a3 S.far.length c3, .slice a4 0 c4] 30) := q1
  have R0 : Hid (Bk _ (w.heap.size + 1) lz 30) := q2
  have B0 : Hid (Below w.heap.size w _) := q3
  clear q1 q2 q3 hb
  go_enter Try.func37, Try.ntmps37
  go_upto_region 1 with fail
  generalize (w.alloc (.cells #[.int .i64 (S.n : Int), .int .i64 (S.d : Int), .int .i64 (S.r : Int), .slice a1 S.cr.length c1, .slice a2 S.ws.length c2, .slice a3 S.far.length c3, .slice a4 0 c4] 30)).alloc (.cells lz 30) = v0 at *
  have d0 := P0.out.cell 0
  have d1 := P0.out.cell 1
  have d2 := P0.out.cell 2
  have d3 := P0.out.cell 3
  have d4 := P0.out.cell 4
  have d5 := P0.out.cell 5
  have d6 := P0.out.cell 6
  simp only [List.getElem?_toArray, List.getElem?_cons_zero, List.getElem?_cons_succ] at d0 d1 d2 d3 d4 d5 d6
  have e0 := R0.out.cell 0
  have e1 := R0.out.cell 1
  have e2 := R0.out.cell 2
  have e3 := R0.out.cell 3
  have e4 := R0.out.cell 4
  have e5 := R0.out.cell 5
  have e6 := R0.out.cell 6
  simp only [List.getElem?_toArray, List.getElem?_cons_zero, List.getElem?_cons_succ] at e0 e1 e2 e3 e4 e5 e6
  have z0 := R0.out.free 0
  have z1 := R0.out.free 1
  have z2 := R0.out.free 2
  have z3 := R0.out.free 3
  have z4 := R0.out.free 4
  have z5 := R0.out.free 5
  have z6 := R0.out.free 6
  have YY := seven_at R0.out (.int .i64 (S.n : Int)) (.int .i64 (S.d : Int)) (.int .i64 (S.r : Int)) (.slice a1 S.cr.length c1) (.slice a2 S.ws.length c2) (.slice a3 S.far.length c3) (.slice a4 0 c4)
  have y0 := YY.cell 0
  have y1 := YY.cell 1
  have y2 := YY.cell 2
  have y3 := YY.cell 3
  have y4 := YY.cell 4
  have y5 := YY.cell 5
  have y6 := YY.cell 6
  simp only [List.getElem?_toArray, List.getElem?_cons_zero, List.getElem?_cons_succ] at y0 y1 y2 y3 y4 y5 y6
  clear YY
  go_wp2
  refine bodyPost_ret (v := .tuple #[.agg #[.int .i64 (S.n : Int), .int .i64 (S.d : Int), .int .i64 (S.r : Int), .slice a1 S.cr.length c1, .slice a2 S.ws.length c2, .slice a3 S.far.length c3, .slice a4 0 c4], .int .i64 8]) (by simp [results, Try.results37, go_sem, y0, y1, y2, y3, y4, y5, y6]; try rfl) rfl ⟨rfl, below_seven B0.out (by omega) _ _ _ _ _ _ _⟩
theorem rd_tail {w : World} {g o : Nat} {x : Int} {l : List Int} (h : Rd w (some ⟨g, o, none⟩) (vi (x :: l))) : Rd w (some ⟨g, o + 1, none⟩) (vi l) := fun j v hj => by
  obtain ⟨g', o', e, hg, hc⟩ := h (j + 1) v (by simpa [vi] using hj)
  simp only [Option.some.injEq, Addr.mk.injEq] at e
  obtain ⟨rfl, rfl, _⟩ := e
  exact ⟨g, o + 1, rfl, hg, by rw [Nat.add_assoc, Nat.add_comm 1 j]; exact hc⟩
set_option maxRecDepth 100000 in
set_option maxHeartbeats 8000000 in
theorem cred_some (S : LS) (v : Value) (w : World) (hv : RefAt w v S) (q : Nat) (tl : List Int) (hb : S.bk = (q : Int) :: tl) (hq : q < S.cr.length) (hn : S.cr.length ≤ 1000) (hx : -9223372036854775808 ≤ S.cr.getD q 0 + 1 ∧ S.cr.getD q 0 + 1 ≤ 9223372036854775807) :
    Calls Try.prog 37 #[v] w fun e w' => ∃ v', e = .returned (.tuple #[v', .int .i64 0]) ∧ RefAt w' v' { S with cr := S.cr.set q (S.cr.getD q 0 + 1), bk := tl } ∧ Below w.heap.size w w' ∧ Src w.heap.size w'.heap.size v v' := by
  obtain ⟨a1, a2, a3, a4, c1, c2, c3, c4, rfl, ⟨r1, r2, r3, r4⟩, x2, x4⟩ := hv
  unfold lsv
  rw [hb] at r4 x4 ⊢
  obtain ⟨m, hm⟩ : ∃ m, tl.length = m := ⟨_, rfl⟩
  rw [List.length_cons, hm] at x4 ⊢
  obtain ⟨g, o, rfl, hg, hc⟩ := r4 0 (.int .i64 (q : Int)) rfl
  rw [Nat.add_zero] at hc
  have R4 : Hid (Rd w (some ⟨g, o, none⟩) (vi ((q : Int) :: tl))) := r4
  have R1 : Hid (Rd w a1 (vi S.cr)) := r1
  have R2 : Hid (Rd w a2 (S.ws.flatMap cc)) := r2
  have R3 : Hid (Rd w a3 (vi S.far)) := r3
  have X2 : Hid (S.ws.length ≤ c2 ∧ c2 ≤ maxLen ∧ (a2 = none → S.ws.length = 0 ∧ c2 = 0)) := x2
  obtain ⟨x41, x42, -⟩ := x4
  unfold maxLen at x42
  have HMM : Hid (tl.length = m) := hm
  clear r1 r2 r3 r4 x2 hm
  obtain ⟨q1, q2, q3⟩ := two_links w 30 #[.int .i64 (S.n : Int), .int .i64 (S.d : Int), .int .i64 (S.r : Int), .slice a1 S.cr.length c1, .slice a2 S.ws.length c2, .slice a3 S.far.length c3, .slice (some ⟨g, o, none⟩) (m + 1) c4] lz
  have P0 : Hid (Bk _ w.heap.size #[.int .i64 (S.n : Int), .int .i64 (S.d : Int), .int .i64 (S.r : Int), .slice a1 S.cr.length c1, .slice a2 S.ws.length c2, .slice a3 S.far.length c3, .slice (some ⟨g, o, none⟩) (m + 1) c4] 30) := q1
  have R0 : Hid (Bk _ (w.heap.size + 1) lz 30) := q2
  have B0 : Hid (Below w.heap.size w _) := q3
  have WC := fun V (h : Rd V a1 (vi S.cr)) => with_any S.cr a1 c1 q 1 V h hq hn hx
  clear q1 q2 q3 hb hx
  go_enter Try.func37, Try.ntmps37
  go_upto_region 1 with fail
  generalize (w.alloc (.cells #[.int .i64 (S.n : Int), .int .i64 (S.d : Int), .int .i64 (S.r : Int), .slice a1 S.cr.length c1, .slice a2 S.ws.length c2, .slice a3 S.far.length c3, .slice (some ⟨g, o, none⟩) (m + 1) c4] 30)).alloc (.cells lz 30) = v0 at *
  obtain ⟨p, hp⟩ : ∃ p, w.heap.size = p := ⟨_, rfl⟩
  have HP : Hid (w.heap.size = p) := hp
  rw [hp] at P0 R0 B0 hg ⊢
  clear hp
  have d0 := P0.out.cell 0
  have d1 := P0.out.cell 1
  have d2 := P0.out.cell 2
  have d3 := P0.out.cell 3
  have d4 := P0.out.cell 4
  have d5 := P0.out.cell 5
  have d6 := P0.out.cell 6
  simp only [List.getElem?_toArray, List.getElem?_cons_zero, List.getElem?_cons_succ] at d0 d1 d2 d3 d4 d5 d6
  go_upto_region 3 with fail
  clear d0 d1 d2 d3 d4 d5 d6
  have SS : Hid (∀ V, Below v0.heap.size v0 V → V.cell? ⟨p, 3, none⟩ = some (.slice a1 S.cr.length c1) ∧ V.cell? ⟨p, 6, none⟩ = some (.slice (some ⟨g, o, none⟩) (m + 1) c4) ∧ V.cell? ⟨g, o, none⟩ = some (.int .i64 (q : Int))) := show _ from fun V h => ⟨(P0.out.next h).cell 3, (P0.out.next h).cell 6, (h.cell (p := ⟨g, o, none⟩) (Nat.lt_of_lt_of_le (by rw [← HP.out] at hg; exact hg) B0.out.size)).trans ((B0.out.cell (p := ⟨g, o, none⟩) hg).trans hc)⟩
  have S0 : (fun V : World => V.cell? ⟨p, 3, none⟩ = some (.slice a1 S.cr.length c1) ∧ V.cell? ⟨p, 6, none⟩ = some (.slice (some ⟨g, o, none⟩) (m + 1) c4) ∧ V.cell? ⟨g, o, none⟩ = some (.int .i64 (q : Int))) v0.drew := SS.out _ (Below.refl _ _).drew
  refine wp_region_G (fun V : World => V.cell? ⟨p, 3, none⟩ = some (.slice a1 S.cr.length c1) ∧ V.cell? ⟨p, 6, none⟩ = some (.slice (some ⟨g, o, none⟩) (m + 1) c4) ∧ V.cell? ⟨g, o, none⟩ = some (.int .i64 (q : Int))) 8 (by kernel_rfl) ?_
  refine wpAnyG_take [8] (some 9) (i := 0) (v := ?v0) rfl rfl (by kernel_rfl) (by kernel_rfl) (by kernel_rfl) (by kernel_rfl) (fun _ _ _ h => h) (Or.inl ⟨by rfl, ?y0⟩) S0 ?r0
  case y0 => (intro V hSV; obtain ⟨d0, d1, d2⟩ := hSV; go_simp; try with_reducible rfl)
  simp only [Act.put, List.setIfInBounds_toArray, List.set_cons_zero, List.set_cons_succ]
  refine wpAnyG_take [8] (some 10) (i := 1) (v := ?v1) rfl rfl (by kernel_rfl) (by kernel_rfl) (by kernel_rfl) (by kernel_rfl) (fun _ _ _ h => h) (Or.inl ⟨by rfl, ?y1⟩) S0 ?r1
  case y1 => (intro V hSV; obtain ⟨d0, d1, d2⟩ := hSV; go_simp; try with_reducible rfl)
  simp only [Act.put, List.setIfInBounds_toArray, List.set_cons_zero, List.set_cons_succ]
  refine wpAnyG_take [8] (some 11) (i := 2) (v := ?v2) rfl rfl (by kernel_rfl) (by kernel_rfl) (by kernel_rfl) (by kernel_rfl) (fun _ _ _ h => h) (Or.inl ⟨by rfl, ?y2⟩) S0 ?r2
  case y2 => (intro V hSV; obtain ⟨d0, d1, d2⟩ := hSV; go_simp; try with_reducible rfl)
  simp only [Act.put, List.setIfInBounds_toArray, List.set_cons_zero, List.set_cons_succ]
  refine wpAnyG_take [8] (some 12) (i := 3) (v := ?v3) rfl rfl (by kernel_rfl) (by kernel_rfl) (by kernel_rfl) (by kernel_rfl) (fun _ _ _ h => h) (Or.inl ⟨by rfl, ?y3⟩) S0 ?r3
  case y3 => (intro V hSV; obtain ⟨d0, d1, d2⟩ := hSV; go_simp; try with_reducible rfl)
  simp only [Act.put, List.setIfInBounds_toArray, List.set_cons_zero, List.set_cons_succ]
  refine wpAnyG_take [8] (some 13) (i := 4) (v := ?v4) rfl rfl (by kernel_rfl) (by kernel_rfl) (by kernel_rfl) (by kernel_rfl) (fun _ _ _ h => h) (Or.inl ⟨by rfl, ?y4⟩) S0 ?r4
  case y4 => (intro V hSV; obtain ⟨d0, d1, d2⟩ := hSV; go_simp; try with_reducible rfl)
  simp only [Act.put, List.setIfInBounds_toArray, List.set_cons_zero, List.set_cons_succ]
  refine wpAnyG_take [8] (some 14) (i := 5) (v := ?v5) rfl rfl (by kernel_rfl) (by kernel_rfl) (by kernel_rfl) (by kernel_rfl) (fun _ _ _ h => h) (Or.inl ⟨by rfl, ?y5⟩) S0 ?r5
  case y5 => (intro V hSV; obtain ⟨d0, d1, d2⟩ := hSV; go_simp; try with_reducible rfl)
  simp only [Act.put, List.setIfInBounds_toArray, List.set_cons_zero, List.set_cons_succ]
  have hpz : p ≤ v0.heap.size := Nat.le_of_lt P0.out.lt
  have RD : Rd v0.drew a1 (vi S.cr) := R1.out.below (by rw [HP.out]; exact B0.out.drew)
  refine wpAnyG_one (i := 6) (by kernel_rfl) rfl (fun K hK => ?_)
  go_simp
  with_reducible refine (WC v0.drew RD).mono ?_
  rintro e w1 ⟨nv, rfl, ow, h1⟩
  obtain ⟨a1', c1', rfl, -, -, rd1⟩ := ow.rd
  have LQ : (vi (S.cr.set q (S.cr.getD q 0 + 1))).length = S.cr.length := by rw [vi_len, List.length_set]
  rw [LQ]
  have hB1 : Below v0.heap.size v0 w1 := (Below.refl _ _).drew.trans h1
  refine hK.out _ _ (Or.inr (SS.out _ hB1)) ?_
  clear hK K S0 WC RD
  refine wpAnyG_one (i := 7) (by kernel_rfl) rfl (fun K hK => ?_)
  go_simp
  refine hK.out _ _ (Or.inr (SS.out _ hB1)) ?_
  clear hK K SS
  have P1 : Hid (Bk w1 p #[.int .i64 (S.n : Int), .int .i64 (S.d : Int), .int .i64 (S.r : Int), .slice a1 S.cr.length c1, .slice a2 S.ws.length c2, .slice a3 S.far.length c3, .slice (some ⟨g, o, none⟩) (m + 1) c4] 30) := P0.out.next hB1
  have R1' : Hid (Bk w1 (p + 1) lz 30) := R0.out.next hB1
  have B1 : Hid (Below p w w1) := B0.out.trans (hB1.mono hpz)
  have f3 := P1.out.free 3
  have u3 := P1.out.cell 3
  simp only [List.getElem?_toArray, List.getElem?_cons_zero, List.getElem?_cons_succ] at u3
  have RN : Hid (Rd w1 a1' (vi (S.cr.set q (S.cr.getD q 0 + 1)))) := rd1
  have hne : ¬ p = p + 1 := by omega
  have hbp : p + 1 < v0.heap.size := R0.out.lt
  have HOW : Hid (Own 3 w1 v0.heap.size (.slice a1' S.cr.length c1') (vi (S.cr.set q (S.cr.getD q 0 + 1)))) := (LQ ▸ ow : Own 3 w1 v0.heap.size (.slice a1' S.cr.length c1') (vi (S.cr.set q (S.cr.getD q 0 + 1))))
  clear hB1 h1 ow rd1
  refine wpAnyG_one (i := 8) (by kernel_rfl) rfl (fun K hK => ?_)
  go_simp
  refine hK.out _ _ (Or.inl (by kernel_rfl)) ?_
  clear hK K
  refine wpAnyG_done (by kernel_rfl) ?_ _
  have P2 : Hid (Bk (w1.setCell ⟨p, 3, none⟩ (.slice a1' S.cr.length c1')) p #[.int .i64 (S.n : Int), .int .i64 (S.d : Int), .int .i64 (S.r : Int), .slice a1' S.cr.length c1', .slice a2 S.ws.length c2, .slice a3 S.far.length c3, .slice (some ⟨g, o, none⟩) (m + 1) c4] 30) := show Bk _ _ _ _ from by simpa using P1.out.set 3 (.slice a1' S.cr.length c1')
  have R2' : Hid (Bk (w1.setCell ⟨p, 3, none⟩ (.slice a1' S.cr.length c1')) (p + 1) lz 30) := R1'.out.far (fun e => hne e.symm)
  have B2 : Hid (Below p w (w1.setCell ⟨p, 3, none⟩ (.slice a1' S.cr.length c1'))) := B1.out.setCell (Nat.le_refl _) _
  have HOW2 : Hid (Own 3 (w1.setCell ⟨p, 3, none⟩ (.slice a1' S.cr.length c1')) v0.heap.size (.slice a1' S.cr.length c1') (vi (S.cr.set q (S.cr.getD q 0 + 1)))) := OwnK.far (k := 1) HOW.out (by omega)
  clear P1 R1' B1 f3 u3 RN HOW P0 R0 B0
  generalize w1.setCell ⟨p, 3, none⟩ (.slice a1' S.cr.length c1') = w2 at *
  have c6 := P2.out.cell 6
  have z6 := P2.out.free 6
  simp only [List.getElem?_toArray, List.getElem?_cons_zero, List.getElem?_cons_succ] at c6
  have e1 : (1 : Int) ≤ (m : Int) + 1 := by omega
  by_cases hcap : c4 = 1
  · subst hcap
    obtain rfl : m = 0 := by omega
    go_upto_region 5 with fail
    have P3 : Hid (Bk (w2.setCell ⟨p, 6, none⟩ (.slice (some ⟨g, o, none⟩) 0 0)) p #[.int .i64 (S.n : Int), .int .i64 (S.d : Int), .int .i64 (S.r : Int), .slice a1' S.cr.length c1', .slice a2 S.ws.length c2, .slice a3 S.far.length c3, .slice (some ⟨g, o, none⟩) 0 0] 30) := show Bk _ _ _ _ from by simpa using P2.out.set 6 (.slice (some ⟨g, o, none⟩) 0 0)
    have R3' : Hid (Bk (w2.setCell ⟨p, 6, none⟩ (.slice (some ⟨g, o, none⟩) 0 0)) (p + 1) lz 30) := R2'.out.far (fun e => hne e.symm)
    have B3 : Hid (Below p w (w2.setCell ⟨p, 6, none⟩ (.slice (some ⟨g, o, none⟩) 0 0))) := B2.out.setCell (Nat.le_refl _) _
    have HOW3 : Hid (Own 3 (w2.setCell ⟨p, 6, none⟩ (.slice (some ⟨g, o, none⟩) 0 0)) v0.heap.size (.slice a1' S.cr.length c1') (vi (S.cr.set q (S.cr.getD q 0 + 1)))) := OwnK.far (k := 1) HOW2.out (by omega)
    clear P2 R2' B2 HOW2 c6 z6
    generalize w2.setCell ⟨p, 6, none⟩ (.slice (some ⟨g, o, none⟩) 0 0) = w3 at *
    have d0 := P3.out.cell 0
    have d1 := P3.out.cell 1
    have d2 := P3.out.cell 2
    have d3 := P3.out.cell 3
    have d4 := P3.out.cell 4
    have d5 := P3.out.cell 5
    have d6 := P3.out.cell 6
    simp only [List.getElem?_toArray, List.getElem?_cons_zero, List.getElem?_cons_succ] at d0 d1 d2 d3 d4 d5 d6
    have e0 := R3'.out.cell 0
    have e1 := R3'.out.cell 1
    have e2 := R3'.out.cell 2
    have e3 := R3'.out.cell 3
    have e4 := R3'.out.cell 4
    have e5 := R3'.out.cell 5
    have e6 := R3'.out.cell 6
    simp only [List.getElem?_toArray, List.getElem?_cons_zero, List.getElem?_cons_succ] at e0 e1 e2 e3 e4 e5 e6
    have z0 := R3'.out.free 0
    have z1 := R3'.out.free 1
    have z2 := R3'.out.free 2
    have z3 := R3'.out.free 3
    have z4 := R3'.out.free 4
    have z5 := R3'.out.free 5
    have z6 := R3'.out.free 6
    have YY := seven_at R3'.out (.int .i64 (S.n : Int)) (.int .i64 (S.d : Int)) (.int .i64 (S.r : Int)) (.slice a1' S.cr.length c1') (.slice a2 S.ws.length c2) (.slice a3 S.far.length c3) (.slice (some ⟨g, o, none⟩) 0 0)
    have y0 := YY.cell 0
    have y1 := YY.cell 1
    have y2 := YY.cell 2
    have y3 := YY.cell 3
    have y4 := YY.cell 4
    have y5 := YY.cell 5
    have y6 := YY.cell 6
    simp only [List.getElem?_toArray, List.getElem?_cons_zero, List.getElem?_cons_succ] at y0 y1 y2 y3 y4 y5 y6
    clear YY
    have B4 : Hid (Below p w (((((((w3.setCell ⟨p + 1, 0, none⟩ (.int .i64 (S.n : Int))).setCell ⟨p + 1, 1, none⟩ (.int .i64 (S.d : Int))).setCell ⟨p + 1, 2, none⟩ (.int .i64 (S.r : Int))).setCell ⟨p + 1, 3, none⟩ (.slice a1' S.cr.length c1')).setCell ⟨p + 1, 4, none⟩ (.slice a2 S.ws.length c2)).setCell ⟨p + 1, 5, none⟩ (.slice a3 S.far.length c3)).setCell ⟨p + 1, 6, none⟩ (.slice (some ⟨g, o, none⟩) 0 0))) := below_seven B3.out (by omega) _ _ _ _ _ _ _
    have HOW4 : Own 3 (((((((w3.setCell ⟨p + 1, 0, none⟩ (.int .i64 (S.n : Int))).setCell ⟨p + 1, 1, none⟩ (.int .i64 (S.d : Int))).setCell ⟨p + 1, 2, none⟩ (.int .i64 (S.r : Int))).setCell ⟨p + 1, 3, none⟩ (.slice a1' S.cr.length c1')).setCell ⟨p + 1, 4, none⟩ (.slice a2 S.ws.length c2)).setCell ⟨p + 1, 5, none⟩ (.slice a3 S.far.length c3)).setCell ⟨p + 1, 6, none⟩ (.slice (some ⟨g, o, none⟩) 0 0)) v0.heap.size (.slice a1' S.cr.length c1') (vi (S.cr.set q (S.cr.getD q 0 + 1))) := OwnK.far (k := 1) (OwnK.far (k := 1) (OwnK.far (k := 1) (OwnK.far (k := 1) (OwnK.far (k := 1) (OwnK.far (k := 1) (OwnK.far (k := 1) HOW3.out hbp) hbp) hbp) hbp) hbp) hbp) hbp
    have RR : Hid (Rd (((((((w3.setCell ⟨p + 1, 0, none⟩ (.int .i64 (S.n : Int))).setCell ⟨p + 1, 1, none⟩ (.int .i64 (S.d : Int))).setCell ⟨p + 1, 2, none⟩ (.int .i64 (S.r : Int))).setCell ⟨p + 1, 3, none⟩ (.slice a1' S.cr.length c1')).setCell ⟨p + 1, 4, none⟩ (.slice a2 S.ws.length c2)).setCell ⟨p + 1, 5, none⟩ (.slice a3 S.far.length c3)).setCell ⟨p + 1, 6, none⟩ (.slice (some ⟨g, o, none⟩) 0 0)) a1' (vi (S.cr.set q (S.cr.getD q 0 + 1)))) := show _ from by
      obtain ⟨a, cap, e, _, _, r⟩ := HOW4.rd
      simp only [Value.slice.injEq] at e
      obtain ⟨rfl, -, rfl⟩ := e
      exact r
    have NW : Hid (New p _ a1') := (New.of (k := 1) HOW4).mono (by omega)
    clear HOW4 HOW3
    go_wp2
    refine bodyPost_ret (v := .tuple #[.agg #[.int .i64 (S.n : Int), .int .i64 (S.d : Int), .int .i64 (S.r : Int), .slice a1' S.cr.length c1', .slice a2 S.ws.length c2, .slice a3 S.far.length c3, .slice (some ⟨g, o, none⟩) 0 0], .int .i64 0]) (by simp [results, Try.results37, go_sem, y0, y1, y2, y3, y4, y5, y6]; try rfl) rfl ⟨_, rfl, ⟨a1', a2, a3, (some ⟨g, o, none⟩), c1', c2, c3, 0, ?_, ⟨RR.out, R2.out.below (by rw [HP.out]; exact B4.out), R3.out.below (by rw [HP.out]; exact B4.out), ?_⟩, X2.out, ?_⟩, by rw [HP.out]; exact B4.out, by rw [HP.out]; exact src_mk (Fro.new NW.out) (Fro.refl _ _ _) (Fro.refl _ _ _) (Fro.shift _ _ _ _ _ _ _)⟩
    · unfold lsv
      simp only [List.length_set, HMM.out]
    · obtain rfl := List.eq_nil_of_length_eq_zero HMM.out
      exact fun j v hj => (by cases hj)
    · refine ⟨by rw [HMM.out]; omega, by unfold maxLen; omega, fun h => (by cases h)⟩
  · skip
    go_upto_region 5 with fail
    have P3 : Hid (Bk (w2.setCell ⟨p, 6, none⟩ (.slice (some ⟨g, o + 1, none⟩) m (c4 - 1))) p #[.int .i64 (S.n : Int), .int .i64 (S.d : Int), .int .i64 (S.r : Int), .slice a1' S.cr.length c1', .slice a2 S.ws.length c2, .slice a3 S.far.length c3, .slice (some ⟨g, o + 1, none⟩) m (c4 - 1)] 30) := show Bk _ _ _ _ from by simpa using P2.out.set 6 (.slice (some ⟨g, o + 1, none⟩) m (c4 - 1))
    have R3' : Hid (Bk (w2.setCell ⟨p, 6, none⟩ (.slice (some ⟨g, o + 1, none⟩) m (c4 - 1))) (p + 1) lz 30) := R2'.out.far (fun e => hne e.symm)
    have B3 : Hid (Below p w (w2.setCell ⟨p, 6, none⟩ (.slice (some ⟨g, o + 1, none⟩) m (c4 - 1)))) := B2.out.setCell (Nat.le_refl _) _
    have HOW3 : Hid (Own 3 (w2.setCell ⟨p, 6, none⟩ (.slice (some ⟨g, o + 1, none⟩) m (c4 - 1))) v0.heap.size (.slice a1' S.cr.length c1') (vi (S.cr.set q (S.cr.getD q 0 + 1)))) := OwnK.far (k := 1) HOW2.out (by omega)
    clear P2 R2' B2 HOW2 c6 z6
    generalize w2.setCell ⟨p, 6, none⟩ (.slice (some ⟨g, o + 1, none⟩) m (c4 - 1)) = w3 at *
    have d0 := P3.out.cell 0
    have d1 := P3.out.cell 1
    have d2 := P3.out.cell 2
    have d3 := P3.out.cell 3
    have d4 := P3.out.cell 4
    have d5 := P3.out.cell 5
    have d6 := P3.out.cell 6
    simp only [List.getElem?_toArray, List.getElem?_cons_zero, List.getElem?_cons_succ] at d0 d1 d2 d3 d4 d5 d6
    have e0 := R3'.out.cell 0
    have e1 := R3'.out.cell 1
    have e2 := R3'.out.cell 2
    have e3 := R3'.out.cell 3
    have e4 := R3'.out.cell 4
    have e5 := R3'.out.cell 5
    have e6 := R3'.out.cell 6
    simp only [List.getElem?_toArray, List.getElem?_cons_zero, List.getElem?_cons_succ] at e0 e1 e2 e3 e4 e5 e6
    have z0 := R3'.out.free 0
    have z1 := R3'.out.free 1
    have z2 := R3'.out.free 2
    have z3 := R3'.out.free 3
    have z4 := R3'.out.free 4
    have z5 := R3'.out.free 5
    have z6 := R3'.out.free 6
    have YY := seven_at R3'.out (.int .i64 (S.n : Int)) (.int .i64 (S.d : Int)) (.int .i64 (S.r : Int)) (.slice a1' S.cr.length c1') (.slice a2 S.ws.length c2) (.slice a3 S.far.length c3) (.slice (some ⟨g, o + 1, none⟩) m (c4 - 1))
    have y0 := YY.cell 0
    have y1 := YY.cell 1
    have y2 := YY.cell 2
    have y3 := YY.cell 3
    have y4 := YY.cell 4
    have y5 := YY.cell 5
    have y6 := YY.cell 6
    simp only [List.getElem?_toArray, List.getElem?_cons_zero, List.getElem?_cons_succ] at y0 y1 y2 y3 y4 y5 y6
    clear YY
    have B4 : Hid (Below p w (((((((w3.setCell ⟨p + 1, 0, none⟩ (.int .i64 (S.n : Int))).setCell ⟨p + 1, 1, none⟩ (.int .i64 (S.d : Int))).setCell ⟨p + 1, 2, none⟩ (.int .i64 (S.r : Int))).setCell ⟨p + 1, 3, none⟩ (.slice a1' S.cr.length c1')).setCell ⟨p + 1, 4, none⟩ (.slice a2 S.ws.length c2)).setCell ⟨p + 1, 5, none⟩ (.slice a3 S.far.length c3)).setCell ⟨p + 1, 6, none⟩ (.slice (some ⟨g, o + 1, none⟩) m (c4 - 1)))) := below_seven B3.out (by omega) _ _ _ _ _ _ _
    have HOW4 : Own 3 (((((((w3.setCell ⟨p + 1, 0, none⟩ (.int .i64 (S.n : Int))).setCell ⟨p + 1, 1, none⟩ (.int .i64 (S.d : Int))).setCell ⟨p + 1, 2, none⟩ (.int .i64 (S.r : Int))).setCell ⟨p + 1, 3, none⟩ (.slice a1' S.cr.length c1')).setCell ⟨p + 1, 4, none⟩ (.slice a2 S.ws.length c2)).setCell ⟨p + 1, 5, none⟩ (.slice a3 S.far.length c3)).setCell ⟨p + 1, 6, none⟩ (.slice (some ⟨g, o + 1, none⟩) m (c4 - 1))) v0.heap.size (.slice a1' S.cr.length c1') (vi (S.cr.set q (S.cr.getD q 0 + 1))) := OwnK.far (k := 1) (OwnK.far (k := 1) (OwnK.far (k := 1) (OwnK.far (k := 1) (OwnK.far (k := 1) (OwnK.far (k := 1) (OwnK.far (k := 1) HOW3.out hbp) hbp) hbp) hbp) hbp) hbp) hbp
    have RR : Hid (Rd (((((((w3.setCell ⟨p + 1, 0, none⟩ (.int .i64 (S.n : Int))).setCell ⟨p + 1, 1, none⟩ (.int .i64 (S.d : Int))).setCell ⟨p + 1, 2, none⟩ (.int .i64 (S.r : Int))).setCell ⟨p + 1, 3, none⟩ (.slice a1' S.cr.length c1')).setCell ⟨p + 1, 4, none⟩ (.slice a2 S.ws.length c2)).setCell ⟨p + 1, 5, none⟩ (.slice a3 S.far.length c3)).setCell ⟨p + 1, 6, none⟩ (.slice (some ⟨g, o + 1, none⟩) m (c4 - 1))) a1' (vi (S.cr.set q (S.cr.getD q 0 + 1)))) := show _ from by
      obtain ⟨a, cap, e, _, _, r⟩ := HOW4.rd
      simp only [Value.slice.injEq] at e
      obtain ⟨rfl, -, rfl⟩ := e
      exact r
    have NW : Hid (New p _ a1') := (New.of (k := 1) HOW4).mono (by omega)
    clear HOW4 HOW3
    go_wp2
    refine bodyPost_ret (v := .tuple #[.agg #[.int .i64 (S.n : Int), .int .i64 (S.d : Int), .int .i64 (S.r : Int), .slice a1' S.cr.length c1', .slice a2 S.ws.length c2, .slice a3 S.far.length c3, .slice (some ⟨g, o + 1, none⟩) m (c4 - 1)], .int .i64 0]) (by simp [results, Try.results37, go_sem, y0, y1, y2, y3, y4, y5, y6]; try rfl) rfl ⟨_, rfl, ⟨a1', a2, a3, (some ⟨g, o + 1, none⟩), c1', c2, c3, (c4 - 1), ?_, ⟨RR.out, R2.out.below (by rw [HP.out]; exact B4.out), R3.out.below (by rw [HP.out]; exact B4.out), ?_⟩, X2.out, ?_⟩, by rw [HP.out]; exact B4.out, by rw [HP.out]; exact src_mk (Fro.new NW.out) (Fro.refl _ _ _) (Fro.refl _ _ _) (Fro.shift _ _ _ _ _ _ _)⟩
    · unfold lsv
      simp only [List.length_set, HMM.out]
    · exact rd_tail (R4.out.below (by rw [HP.out]; exact B4.out))
    · refine ⟨by rw [HMM.out]; omega, by unfold maxLen; omega, fun h => (by cases h)⟩
end Go.Proofs.Ytihfekcdghmkhaa
