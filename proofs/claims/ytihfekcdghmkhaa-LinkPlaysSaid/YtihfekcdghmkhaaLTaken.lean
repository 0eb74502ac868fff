/-
  The walk of the document's Taken.
-/
import Derived.Test.YtihfekcdghmkhaaLCarry
namespace Go.Proofs.Ytihfekcdghmkhaa
open Go.RowKit
open RC (Cl cc cv zc cc_len cc_at)

set_option maxRecDepth 100000 in
set_option maxHeartbeats 8000000 in
theorem taken_arg (S : LS) (v : Value) (k : Int) (w : World) (hv : RefAt w v S) (hk : ¬ (0 ≤ k ∧ k < (S.n : Int))) :
    Calls Try.prog 36 #[v, .int .i64 k] w fun e w' => e = .returned (.tuple #[v, .int .i64 1]) ∧ Below w.heap.size w w' := by
  obtain ⟨a1, a2, a3, a4, c1, c2, c3, c4, rfl, ⟨r1, r2, r3, r4⟩, x2, x4⟩ := hv
  unfold lsv
  have R1 : Hid (Rd w a1 (vi S.cr)) := r1
  have R2 : Hid (Rd w a2 (S.ws.flatMap cc)) := r2
  have R3 : Hid (Rd w a3 (vi S.far)) := r3
  have R4 : Hid (Rd w a4 (vi S.bk)) := r4
  have X2 : Hid (S.ws.length ≤ c2 ∧ c2 ≤ maxLen ∧ (a2 = none → S.ws.length = 0 ∧ c2 = 0)) := x2
  have X4 : Hid (S.bk.length ≤ c4 ∧ c4 ≤ maxLen ∧ (a4 = none → S.bk.length = 0 ∧ c4 = 0)) := x4
  clear r1 r2 r3 r4 x2 x4
  have IC := fun v => is_any (S.n : Int) (S.d : Int) (S.r : Int) _ _ _ _ k v (slices4 a1 a2 a3 a4 S.cr.length S.ws.length S.far.length S.bk.length c1 c2 c3 c4)
  simp only [decide_eq_false hk] at IC
  obtain ⟨q1, q2, q3⟩ := two_links w 30 #[.int .i64 (S.n : Int), .int .i64 (S.d : Int), .int .i64 (S.r : Int), .slice a1 S.cr.length c1, .slice a2 S.ws.length c2, .slice a3 S.far.length c3, .slice a4 S.bk.length c4] lz
  have P0 : Hid (Bk _ w.heap.size #[.int .i64 (S.n : Int), .int .i64 (S.d : Int), .int .i64 (S.r : Int), .slice a1 S.cr.length c1, .slice a2 S.ws.length c2, .slice a3 S.far.length c3, .slice a4 S.bk.length c4] 30) := q1
  have R0 : Hid (Bk _ (w.heap.size + 1) lz 30) := q2
  have B0 : Hid (Below w.heap.size w _) := q3
  clear q1 q2 q3
  go_enter Try.func36, Try.ntmps36
  go_upto_region 1 with fail
  generalize (w.alloc (.cells #[.int .i64 (S.n : Int), .int .i64 (S.d : Int), .int .i64 (S.r : Int), .slice a1 S.cr.length c1, .slice a2 S.ws.length c2, .slice a3 S.far.length c3, .slice a4 S.bk.length c4] 30)).alloc (.cells lz 30) = v0 at *
  obtain ⟨p, hp⟩ : ∃ p, w.heap.size = p := ⟨_, rfl⟩
  have HP : Hid (w.heap.size = p) := hp
  rw [hp] at P0 R0 B0 ⊢
  clear hp
  have d0 := P0.out.cell 0
  have d1 := P0.out.cell 1
  have d2 := P0.out.cell 2
  have d3 := P0.out.cell 3
  have d4 := P0.out.cell 4
  have d5 := P0.out.cell 5
  have d6 := P0.out.cell 6
  simp only [List.getElem?_toArray, List.getElem?_cons_zero, List.getElem?_cons_succ] at d0 d1 d2 d3 d4 d5 d6
  go_wp2_with fail
  go_at_call 39
  with_reducible refine (IC _).mono ?_
  rintro e w1 ⟨rfl, h1⟩
  have P1 : Hid (Bk w1 p #[.int .i64 (S.n : Int), .int .i64 (S.d : Int), .int .i64 (S.r : Int), .slice a1 S.cr.length c1, .slice a2 S.ws.length c2, .slice a3 S.far.length c3, .slice a4 S.bk.length c4] 30) := P0.out.next h1
  have R1' : Hid (Bk w1 (p + 1) lz 30) := R0.out.next h1
  have B1 : Hid (Below p w w1) := B0.out.trans (h1.mono (Nat.le_of_lt P0.out.lt))
  clear P0 R0 B0 h1 IC d0 d1 d2 d3 d4 d5 d6
  have d0 := P1.out.cell 0
  have d1 := P1.out.cell 1
  have d2 := P1.out.cell 2
  have d3 := P1.out.cell 3
  have d4 := P1.out.cell 4
  have d5 := P1.out.cell 5
  have d6 := P1.out.cell 6
  simp only [List.getElem?_toArray, List.getElem?_cons_zero, List.getElem?_cons_succ] at d0 d1 d2 d3 d4 d5 d6
  have e0 := R1'.out.cell 0
  have e1 := R1'.out.cell 1
  have e2 := R1'.out.cell 2
  have e3 := R1'.out.cell 3
  have e4 := R1'.out.cell 4
  have e5 := R1'.out.cell 5
  have e6 := R1'.out.cell 6
  simp only [List.getElem?_toArray, List.getElem?_cons_zero, List.getElem?_cons_succ] at e0 e1 e2 e3 e4 e5 e6
  have z0 := R1'.out.free 0
  have z1 := R1'.out.free 1
  have z2 := R1'.out.free 2
  have z3 := R1'.out.free 3
  have z4 := R1'.out.free 4
  have z5 := R1'.out.free 5
  have z6 := R1'.out.free 6
  have YY := seven_at R1'.out (.int .i64 (S.n : Int)) (.int .i64 (S.d : Int)) (.int .i64 (S.r : Int)) (.slice a1 S.cr.length c1) (.slice a2 S.ws.length c2) (.slice a3 S.far.length c3) (.slice a4 S.bk.length c4)
  have y0 := YY.cell 0
  have y1 := YY.cell 1
  have y2 := YY.cell 2
  have y3 := YY.cell 3
  have y4 := YY.cell 4
  have y5 := YY.cell 5
  have y6 := YY.cell 6
  simp only [List.getElem?_toArray, List.getElem?_cons_zero, List.getElem?_cons_succ] at y0 y1 y2 y3 y4 y5 y6
  clear YY
  go_wp2
  refine bodyPost_ret (v := .tuple #[.agg #[.int .i64 (S.n : Int), .int .i64 (S.d : Int), .int .i64 (S.r : Int), .slice a1 S.cr.length c1, .slice a2 S.ws.length c2, .slice a3 S.far.length c3, .slice a4 S.bk.length c4], .int .i64 1]) (by simp [results, Try.results36, go_sem, y0, y1, y2, y3, y4, y5, y6]; try rfl) rfl ⟨rfl, by rw [HP.out]; exact below_seven B1.out (by omega) _ _ _ _ _ _ _⟩
set_option maxRecDepth 100000 in
set_option maxHeartbeats 8000000 in
theorem taken_state (S : LS) (v : Value) (q : Nat) (w : World) (hv : RefAt w v S) (hqn : q < S.n) (hq : q < S.far.length) (hz : S.far.getD q 0 = 0) :
    Calls Try.prog 36 #[v, .int .i64 (q : Int)] w fun e w' => e = .returned (.tuple #[v, .int .i64 13]) ∧ Below w.heap.size w w' := by
  obtain ⟨a1, a2, a3, a4, c1, c2, c3, c4, rfl, ⟨r1, r2, r3, r4⟩, x2, x4⟩ := hv
  unfold lsv
  have R1 : Hid (Rd w a1 (vi S.cr)) := r1
  have R2 : Hid (Rd w a2 (S.ws.flatMap cc)) := r2
  have R3 : Hid (Rd w a3 (vi S.far)) := r3
  have R4 : Hid (Rd w a4 (vi S.bk)) := r4
  have X2 : Hid (S.ws.length ≤ c2 ∧ c2 ≤ maxLen ∧ (a2 = none → S.ws.length = 0 ∧ c2 = 0)) := x2
  have X4 : Hid (S.bk.length ≤ c4 ∧ c4 ≤ maxLen ∧ (a4 = none → S.bk.length = 0 ∧ c4 = 0)) := x4
  clear r1 r2 r3 r4 x2 x4
  have IC := fun v => is_any (S.n : Int) (S.d : Int) (S.r : Int) _ _ _ _ (q : Int) v (slices4 a1 a2 a3 a4 S.cr.length S.ws.length S.far.length S.bk.length c1 c2 c3 c4)
  simp only [decide_eq_true (⟨by omega, by omega⟩ : 0 ≤ (q : Int) ∧ (q : Int) < (S.n : Int))] at IC
  obtain ⟨q1, q2, q3⟩ := two_links w 30 #[.int .i64 (S.n : Int), .int .i64 (S.d : Int), .int .i64 (S.r : Int), .slice a1 S.cr.length c1, .slice a2 S.ws.length c2, .slice a3 S.far.length c3, .slice a4 S.bk.length c4] lz
  have P0 : Hid (Bk _ w.heap.size #[.int .i64 (S.n : Int), .int .i64 (S.d : Int), .int .i64 (S.r : Int), .slice a1 S.cr.length c1, .slice a2 S.ws.length c2, .slice a3 S.far.length c3, .slice a4 S.bk.length c4] 30) := q1
  have R0 : Hid (Bk _ (w.heap.size + 1) lz 30) := q2
  have B0 : Hid (Below w.heap.size w _) := q3
  clear q1 q2 q3
  go_enter Try.func36, Try.ntmps36
  go_upto_region 1 with fail
  generalize (w.alloc (.cells #[.int .i64 (S.n : Int), .int .i64 (S.d : Int), .int .i64 (S.r : Int), .slice a1 S.cr.length c1, .slice a2 S.ws.length c2, .slice a3 S.far.length c3, .slice a4 S.bk.length c4] 30)).alloc (.cells lz 30) = v0 at *
  obtain ⟨p, hp⟩ : ∃ p, w.heap.size = p := ⟨_, rfl⟩
  have HP : Hid (w.heap.size = p) := hp
  rw [hp] at P0 R0 B0 ⊢
  clear hp
  have d0 := P0.out.cell 0
  have d1 := P0.out.cell 1
  have d2 := P0.out.cell 2
  have d3 := P0.out.cell 3
  have d4 := P0.out.cell 4
  have d5 := P0.out.cell 5
  have d6 := P0.out.cell 6
  simp only [List.getElem?_toArray, List.getElem?_cons_zero, List.getElem?_cons_succ] at d0 d1 d2 d3 d4 d5 d6
  go_wp2_with fail
  go_at_call 39
  with_reducible refine (IC _).mono ?_
  rintro e w1 ⟨rfl, h1⟩
  have P1 : Hid (Bk w1 p #[.int .i64 (S.n : Int), .int .i64 (S.d : Int), .int .i64 (S.r : Int), .slice a1 S.cr.length c1, .slice a2 S.ws.length c2, .slice a3 S.far.length c3, .slice a4 S.bk.length c4] 30) := P0.out.next h1
  have R1' : Hid (Bk w1 (p + 1) lz 30) := R0.out.next h1
  have B1 : Hid (Below p w w1) := B0.out.trans (h1.mono (Nat.le_of_lt P0.out.lt))
  clear P0 R0 B0 h1 IC d0 d1 d2 d3 d4 d5 d6
  obtain ⟨g, o, rfl, hg, hc⟩ := R3.out q _ (vi_at hq)
  rw [hz] at hc
  have hc1 := (B1.out.cell (p := ⟨g, o + q, none⟩) (by rw [← HP.out]; exact hg)).trans hc
  have e1 : (q : Int) < (S.far.length : Int) := by omega
  have e0 : (0 : Int) ≤ (q : Int) := by omega
  have d0 := P1.out.cell 0
  have d1 := P1.out.cell 1
  have d2 := P1.out.cell 2
  have d3 := P1.out.cell 3
  have d4 := P1.out.cell 4
  have d5 := P1.out.cell 5
  have d6 := P1.out.cell 6
  simp only [List.getElem?_toArray, List.getElem?_cons_zero, List.getElem?_cons_succ] at d0 d1 d2 d3 d4 d5 d6
  have e0 := R1'.out.cell 0
  have e1 := R1'.out.cell 1
  have e2 := R1'.out.cell 2
  have e3 := R1'.out.cell 3
  have e4 := R1'.out.cell 4
  have e5 := R1'.out.cell 5
  have e6 := R1'.out.cell 6
  simp only [List.getElem?_toArray, List.getElem?_cons_zero, List.getElem?_cons_succ] at e0 e1 e2 e3 e4 e5 e6
  have z0 := R1'.out.free 0
  have z1 := R1'.out.free 1
  have z2 := R1'.out.free 2
  have z3 := R1'.out.free 3
  have z4 := R1'.out.free 4
  have z5 := R1'.out.free 5
  have z6 := R1'.out.free 6
  have YY := seven_at R1'.out (.int .i64 (S.n : Int)) (.int .i64 (S.d : Int)) (.int .i64 (S.r : Int)) (.slice a1 S.cr.length c1) (.slice a2 S.ws.length c2) (.slice (some ⟨g, o, none⟩) S.far.length c3) (.slice a4 S.bk.length c4)
  have y0 := YY.cell 0
  have y1 := YY.cell 1
  have y2 := YY.cell 2
  have y3 := YY.cell 3
  have y4 := YY.cell 4
  have y5 := YY.cell 5
  have y6 := YY.cell 6
  simp only [List.getElem?_toArray, List.getElem?_cons_zero, List.getElem?_cons_succ] at y0 y1 y2 y3 y4 y5 y6
  clear YY
  go_wp2
  refine bodyPost_ret (v := .tuple #[.agg #[.int .i64 (S.n : Int), .int .i64 (S.d : Int), .int .i64 (S.r : Int), .slice a1 S.cr.length c1, .slice a2 S.ws.length c2, .slice (some ⟨g, o, none⟩) S.far.length c3, .slice a4 S.bk.length c4], .int .i64 13]) (by simp [results, Try.results36, go_sem, y0, y1, y2, y3, y4, y5, y6]; try rfl) rfl ⟨rfl, by rw [HP.out]; exact below_seven B1.out (by omega) _ _ _ _ _ _ _⟩
set_option maxRecDepth 100000 in
set_option maxHeartbeats 16000000 in
theorem taken_ok (S : LS) (v : Value) (q : Nat) (w : World) (hv : RefAt w v S) (hqn : q < S.n) (hq : q < S.far.length) (hn : S.far.length ≤ 1000) (hz : ¬ S.far.getD q 0 = 0) (hx : -9223372036854775808 ≤ S.far.getD q 0 + -1 ∧ S.far.getD q 0 + -1 ≤ 9223372036854775807) (hbk : S.bk.length ≤ 100000) :
    Calls Try.prog 36 #[v, .int .i64 (q : Int)] w fun e w' => ∃ v', e = .returned (.tuple #[v', .int .i64 0]) ∧ RefAt w' v' { S with far := S.far.set q (S.far.getD q 0 + -1), bk := S.bk ++ [(q : Int)] } ∧ Below w.heap.size w w' ∧ Src w.heap.size w'.heap.size v v' := by
  obtain ⟨i0, ki, hz0, hz1, hz2⟩ := info_parts Try.info3
  obtain ⟨a1, a2, a3, a4, c1, c2, c3, c4, rfl, ⟨r1, r2, r3, r4⟩, x2, x4⟩ := hv
  unfold lsv
  have R1 : Hid (Rd w a1 (vi S.cr)) := r1
  have R2 : Hid (Rd w a2 (S.ws.flatMap cc)) := r2
  have R3 : Hid (Rd w a3 (vi S.far)) := r3
  have R4 : Hid (Rd w a4 (vi S.bk)) := r4
  have X2 : Hid (S.ws.length ≤ c2 ∧ c2 ≤ maxLen ∧ (a2 = none → S.ws.length = 0 ∧ c2 = 0)) := x2
  have X4 : Hid (S.bk.length ≤ c4 ∧ c4 ≤ maxLen ∧ (a4 = none → S.bk.length = 0 ∧ c4 = 0)) := x4
  clear r1 r2 r3 r4 x2 x4
  have IC := fun v => is_any (S.n : Int) (S.d : Int) (S.r : Int) _ _ _ _ (q : Int) v (slices4 a1 a2 a3 a4 S.cr.length S.ws.length S.far.length S.bk.length c1 c2 c3 c4)
  simp only [decide_eq_true (⟨by omega, by omega⟩ : 0 ≤ (q : Int) ∧ (q : Int) < (S.n : Int))] at IC
  obtain ⟨q1, q2, q3⟩ := two_links w 30 #[.int .i64 (S.n : Int), .int .i64 (S.d : Int), .int .i64 (S.r : Int), .slice a1 S.cr.length c1, .slice a2 S.ws.length c2, .slice a3 S.far.length c3, .slice a4 S.bk.length c4] lz
  have P0 : Hid (Bk _ w.heap.size #[.int .i64 (S.n : Int), .int .i64 (S.d : Int), .int .i64 (S.r : Int), .slice a1 S.cr.length c1, .slice a2 S.ws.length c2, .slice a3 S.far.length c3, .slice a4 S.bk.length c4] 30) := q1
  have R0 : Hid (Bk _ (w.heap.size + 1) lz 30) := q2
  have B0 : Hid (Below w.heap.size w _) := q3
  clear q1 q2 q3
  go_enter Try.func36, Try.ntmps36
  go_upto_region 1 with fail
  generalize (w.alloc (.cells #[.int .i64 (S.n : Int), .int .i64 (S.d : Int), .int .i64 (S.r : Int), .slice a1 S.cr.length c1, .slice a2 S.ws.length c2, .slice a3 S.far.length c3, .slice a4 S.bk.length c4] 30)).alloc (.cells lz 30) = v0 at *
  obtain ⟨p, hp⟩ : ∃ p, w.heap.size = p := ⟨_, rfl⟩
  have HP : Hid (w.heap.size = p) := hp
  rw [hp] at P0 R0 B0 ⊢
  clear hp
  have d0 := P0.out.cell 0
  have d1 := P0.out.cell 1
  have d2 := P0.out.cell 2
  have d3 := P0.out.cell 3
  have d4 := P0.out.cell 4
  have d5 := P0.out.cell 5
  have d6 := P0.out.cell 6
  simp only [List.getElem?_toArray, List.getElem?_cons_zero, List.getElem?_cons_succ] at d0 d1 d2 d3 d4 d5 d6
  go_wp2_with fail
  go_at_call 39
  with_reducible refine (IC _).mono ?_
  rintro e w1 ⟨rfl, h1⟩
  have P1 : Hid (Bk w1 p #[.int .i64 (S.n : Int), .int .i64 (S.d : Int), .int .i64 (S.r : Int), .slice a1 S.cr.length c1, .slice a2 S.ws.length c2, .slice a3 S.far.length c3, .slice a4 S.bk.length c4] 30) := P0.out.next h1
  have R1' : Hid (Bk w1 (p + 1) lz 30) := R0.out.next h1
  have B1 : Hid (Below p w w1) := B0.out.trans (h1.mono (Nat.le_of_lt P0.out.lt))
  clear P0 R0 B0 h1 IC d0 d1 d2 d3 d4 d5 d6
  obtain ⟨g, o, rfl, hg, hc⟩ := R3.out q _ (vi_at hq)
  have WC := fun V (h : Rd V (some ⟨g, o, none⟩) (vi S.far)) => with_any S.far (some ⟨g, o, none⟩) c3 q (-1) V h hq hn hx
  have hc1 := (B1.out.cell (p := ⟨g, o + q, none⟩) (by rw [← HP.out]; exact hg)).trans hc
  have e1 : (q : Int) < (S.far.length : Int) := by omega
  have e0 : (0 : Int) ≤ (q : Int) := by omega
  have WC1 := WC w1 (R3.out.below (by rw [HP.out]; exact B1.out))
  clear WC hx
  obtain ⟨x, hxx⟩ : ∃ x, S.far.getD q 0 = x := ⟨_, rfl⟩
  rw [hxx] at hc1 hz WC1
  have HXX : Hid (S.far.getD q 0 = x) := hxx
  have hz' : (x == 0) = false := beq_false_of_ne hz
  clear hxx hc
  have d0 := P1.out.cell 0
  have d1 := P1.out.cell 1
  have d2 := P1.out.cell 2
  have d3 := P1.out.cell 3
  have d4 := P1.out.cell 4
  have d5 := P1.out.cell 5
  have d6 := P1.out.cell 6
  simp only [List.getElem?_toArray, List.getElem?_cons_zero, List.getElem?_cons_succ] at d0 d1 d2 d3 d4 d5 d6
  go_upto_region 6 with (go_at_call 48; (with_reducible refine WC1.mono ?_); rintro e w2 ⟨nv, rfl, ow, h2⟩; obtain ⟨a3', c3', rfl, -, -, rd2⟩ := ow.rd; have P2 : Hid (Bk w2 p #[.int .i64 (S.n : Int), .int .i64 (S.d : Int), .int .i64 (S.r : Int), .slice a1 S.cr.length c1, .slice a2 S.ws.length c2, .slice (some ⟨g, o, none⟩) S.far.length c3, .slice a4 S.bk.length c4] 30) := P1.out.next h2; have u5 := P2.out.cell 5; have z5 := P2.out.free 5; simp only [List.getElem?_toArray, List.getElem?_cons_zero, List.getElem?_cons_succ] at u5)
  have LQ : (vi (S.far.set q (x + -1))).length = S.far.length := by rw [vi_len, List.length_set]
  rw [LQ]
  have hps : p < w1.heap.size := P1.out.lt
  have hps1 : p + 1 < w1.heap.size := R1'.out.lt
  have HOW2 : Hid (Own 3 w2 w1.heap.size (.slice a3' S.far.length c3') (vi (S.far.set q (x + -1)))) := (LQ ▸ ow : Own 3 w2 w1.heap.size (.slice a3' S.far.length c3') (vi (S.far.set q (x + -1))))
  have P3 : Hid (Bk (w2.setCell ⟨p, 5, none⟩ (.slice a3' S.far.length c3')) p #[.int .i64 (S.n : Int), .int .i64 (S.d : Int), .int .i64 (S.r : Int), .slice a1 S.cr.length c1, .slice a2 S.ws.length c2, .slice a3' S.far.length c3', .slice a4 S.bk.length c4] 30) := show Bk _ _ _ _ from by simpa using P2.set 5 (.slice a3' S.far.length c3')
  have R3' : Hid (Bk (w2.setCell ⟨p, 5, none⟩ (.slice a3' S.far.length c3')) (p + 1) lz 30) := (R1'.out.next h2).far (by omega)
  have B3 : Hid (Below p w (w2.setCell ⟨p, 5, none⟩ (.slice a3' S.far.length c3'))) := (B1.out.trans (h2.mono (Nat.le_of_lt hps))).setCell (Nat.le_refl _) _
  have HOW3 : Hid (Own 3 (w2.setCell ⟨p, 5, none⟩ (.slice a3' S.far.length c3')) w1.heap.size (.slice a3' S.far.length c3') (vi (S.far.set q (x + -1)))) := OwnK.far (k := 1) HOW2.out hps
  clear P2 P1 R1' B1 HOW2 WC1 ow rd2 h2 u5 z5 d0 d1 d2 d3 d4 d5 d6 hc1
  generalize w2.setCell ⟨p, 5, none⟩ (.slice a3' S.far.length c3') = w3 at *
  have RD : Rd w3 a4 (vi S.bk) := R4.out.below (by rw [HP.out]; exact B3.out)
  have own0 : OwnK 3 1 w3 w3.heap.size (.slice none 0 0) 0 [] := OwnK.nil _ _ _ _
  have hm : (vi S.bk).length = S.bk.length * 1 := by rw [vi_len, Nat.mul_one]
  have VO := vi_one S.bk
  have hnil := X4.out.2.2
  have hl2 : 0 + S.bk.length ≤ 1000000 := by omega
  have hps3 : p < w3.heap.size := P3.out.lt
  have hps4 : p + 1 < w3.heap.size := R3'.out.lt
  have d6 := P3.out.cell 6
  simp only [List.getElem?_toArray, List.getElem?_cons_zero, List.getElem?_cons_succ] at d6
  have HLB : Hid ((vi S.bk).length = S.bk.length) := vi_len _
  have hll : (vi S.bk).length ≤ 1000000 := by rw [HLB.out]; omega
  go_upto_region 8 with (at_builtin; go_loud (refine wpList_app_srck rfl (.tmp 24) (.tmp 26) 27 3 i0 (.int .i64 0) 1 8 rfl Try.underlying27 ki hz0 hz1 hz2 rfl (by decide) (by decide) w3.heap.size w3 (.slice none 0 0) 0 [] rfl own0 a4 S.bk.length c4 rfl hnil (vi S.bk) hm RD VO hl2 (Nat.le_refl _) ?_; intro v4 w4 o4 g4; have own4 : Own 3 w4 w3.heap.size v4 (vi S.bk) := (by unfold Own; rw [HLB.out]; rw [Nat.zero_add, List.nil_append] at o4; exact o4); have B34 : Hid (Below w3.heap.size w3 w4) := (Below.refl _ _).grown g4 (Nat.le_refl _) (fun q hq => by simp [Value.ownBlock] at hq)))
  have hsz : w3.heap.size ≤ w4.heap.size := B34.out.size
  clear d6 RD own0 hm VO hnil hl2 o4 g4
  have P4 : Bk w4 p #[.int .i64 (S.n : Int), .int .i64 (S.d : Int), .int .i64 (S.r : Int), .slice a1 S.cr.length c1, .slice a2 S.ws.length c2, .slice a3' S.far.length c3', .slice a4 S.bk.length c4] 30 := P3.out.next B34.out
  go_upto_region 9 with (at_builtin; go_loud (refine wpList_app_one rfl (.tmp 28) (.tmp 30) 27 3 i0 (.int .i64 0) 8 rfl Try.underlying27 ki hz0 hz1 hz2 rfl (by decide) w3.heap.size w4 v4 (vi S.bk) (.int .i64 (q : Int)) rfl own4 rfl rfl hll hsz ?_; intro v5 w5 o5 k5; obtain ⟨a5, c5, rfl, hc5, hm5, rd5⟩ := o5.rd; have B35 : Hid (Below w3.heap.size w3 w5) := k5.2.1 _ B34.out; have P5 : Bk w5 p #[.int .i64 (S.n : Int), .int .i64 (S.d : Int), .int .i64 (S.r : Int), .slice a1 S.cr.length c1, .slice a2 S.ws.length c2, .slice a3' S.far.length c3', .slice a4 S.bk.length c4] 30 := P3.out.next B35.out; have u6 := P5.cell 6; have z6 := P5.free 6; simp only [List.getElem?_toArray, List.getElem?_cons_zero, List.getElem?_cons_succ] at u6))
  rw [HLB.out]
  have R5' : Bk w5 (p + 1) lz 30 := R3'.out.next B35.out
  have HVB : Hid (vi S.bk ++ [.int .i64 (q : Int)] = vi (S.bk ++ [(q : Int)])) := show _ from by unfold vi; rw [List.map_append]; rfl
  have HC5 : Hid (S.bk.length + 1 ≤ c5 ∧ c5 ≤ maxLen ∧ (a5 = none → S.bk.length + 1 = 0 ∧ c5 = 0)) := show _ from by
    refine ⟨by have := hc5; rw [List.length_append, HLB.out] at this; simpa using this, hm5, fun h => ?_⟩
    obtain ⟨g2, o2, e2, _⟩ := rd5 S.bk.length (.int .i64 (q : Int)) (by rw [List.getElem?_append_right (by rw [HLB.out]; exact Nat.le_refl _), HLB.out]; simp)
    rw [h] at e2
    cases e2
  have LN5 : (vi S.bk ++ [Value.int .i64 (q : Int)]).length = S.bk.length + 1 := by rw [List.length_append, HLB.out]; rfl
  have HO5 : Hid (Own 3 (w5.setCell ⟨p, 6, none⟩ (.slice a5 (S.bk.length + 1) c5)) w3.heap.size (.slice a5 (S.bk.length + 1) c5) (vi S.bk ++ [.int .i64 (q : Int)])) := OwnK.far (k := 1) (LN5 ▸ o5 : Own 3 w5 w3.heap.size (.slice a5 (S.bk.length + 1) c5) (vi S.bk ++ [.int .i64 (q : Int)])) hps3
  have HO3 : Hid (Own 3 (w5.setCell ⟨p, 6, none⟩ (.slice a5 (S.bk.length + 1) c5)) w1.heap.size (.slice a3' S.far.length c3') (vi (S.far.set q (x + -1)))) := OwnK.far (k := 1) (own_next HOW3.out B35.out) hps
  have P6 : Hid (Bk (w5.setCell ⟨p, 6, none⟩ (.slice a5 (S.bk.length + 1) c5)) p #[.int .i64 (S.n : Int), .int .i64 (S.d : Int), .int .i64 (S.r : Int), .slice a1 S.cr.length c1, .slice a2 S.ws.length c2, .slice a3' S.far.length c3', .slice a5 (S.bk.length + 1) c5] 30) := show Bk _ _ _ _ from by simpa using P5.set 6 (.slice a5 (S.bk.length + 1) c5)
  have R6' : Hid (Bk (w5.setCell ⟨p, 6, none⟩ (.slice a5 (S.bk.length + 1) c5)) (p + 1) lz 30) := R5'.far (by omega)
  have B6 : Hid (Below p w (w5.setCell ⟨p, 6, none⟩ (.slice a5 (S.bk.length + 1) c5))) := (B3.out.trans (B35.out.mono (Nat.le_of_lt hps3))).setCell (Nat.le_refl _) _
  clear P5 R5' P4 B34 B35 P3 R3' B3 HOW3 own4 o5 k5 rd5 hc5 hm5 u6 z6
  generalize w5.setCell ⟨p, 6, none⟩ (.slice a5 (S.bk.length + 1) c5) = w6 at *
  have d0 := P6.out.cell 0
  have d1 := P6.out.cell 1
  have d2 := P6.out.cell 2
  have d3 := P6.out.cell 3
  have d4 := P6.out.cell 4
  have d5 := P6.out.cell 5
  have d6 := P6.out.cell 6
  simp only [List.getElem?_toArray, List.getElem?_cons_zero, List.getElem?_cons_succ] at d0 d1 d2 d3 d4 d5 d6
  have e0 := R6'.out.cell 0
  have e1 := R6'.out.cell 1
  have e2 := R6'.out.cell 2
  have e3 := R6'.out.cell 3
  have e4 := R6'.out.cell 4
  have e5 := R6'.out.cell 5
  have e6 := R6'.out.cell 6
  simp only [List.getElem?_toArray, List.getElem?_cons_zero, List.getElem?_cons_succ] at e0 e1 e2 e3 e4 e5 e6
  have z0 := R6'.out.free 0
  have z1 := R6'.out.free 1
  have z2 := R6'.out.free 2
  have z3 := R6'.out.free 3
  have z4 := R6'.out.free 4
  have z5 := R6'.out.free 5
  have z6 := R6'.out.free 6
  have YY := seven_at R6'.out (.int .i64 (S.n : Int)) (.int .i64 (S.d : Int)) (.int .i64 (S.r : Int)) (.slice a1 S.cr.length c1) (.slice a2 S.ws.length c2) (.slice a3' S.far.length c3') (.slice a5 (S.bk.length + 1) c5)
  have y0 := YY.cell 0
  have y1 := YY.cell 1
  have y2 := YY.cell 2
  have y3 := YY.cell 3
  have y4 := YY.cell 4
  have y5 := YY.cell 5
  have y6 := YY.cell 6
  simp only [List.getElem?_toArray, List.getElem?_cons_zero, List.getElem?_cons_succ] at y0 y1 y2 y3 y4 y5 y6
  clear YY
  have B7 : Hid (Below p w (((((((w6.setCell ⟨p + 1, 0, none⟩ (.int .i64 (S.n : Int))).setCell ⟨p + 1, 1, none⟩ (.int .i64 (S.d : Int))).setCell ⟨p + 1, 2, none⟩ (.int .i64 (S.r : Int))).setCell ⟨p + 1, 3, none⟩ (.slice a1 S.cr.length c1)).setCell ⟨p + 1, 4, none⟩ (.slice a2 S.ws.length c2)).setCell ⟨p + 1, 5, none⟩ (.slice a3' S.far.length c3')).setCell ⟨p + 1, 6, none⟩ (.slice a5 (S.bk.length + 1) c5))) := below_seven B6.out (by omega) _ _ _ _ _ _ _
  have far7 : ∀ B (v : Value) (l : List Value), p + 1 < B → Own 3 w6 B v l → Own 3 (((((((w6.setCell ⟨p + 1, 0, none⟩ (.int .i64 (S.n : Int))).setCell ⟨p + 1, 1, none⟩ (.int .i64 (S.d : Int))).setCell ⟨p + 1, 2, none⟩ (.int .i64 (S.r : Int))).setCell ⟨p + 1, 3, none⟩ (.slice a1 S.cr.length c1)).setCell ⟨p + 1, 4, none⟩ (.slice a2 S.ws.length c2)).setCell ⟨p + 1, 5, none⟩ (.slice a3' S.far.length c3')).setCell ⟨p + 1, 6, none⟩ (.slice a5 (S.bk.length + 1) c5)) B v l := fun B v l hB h => OwnK.far (k := 1) (OwnK.far (k := 1) (OwnK.far (k := 1) (OwnK.far (k := 1) (OwnK.far (k := 1) (OwnK.far (k := 1) (OwnK.far (k := 1) h hB) hB) hB) hB) hB) hB) hB
  have Rf : Hid (Rd (((((((w6.setCell ⟨p + 1, 0, none⟩ (.int .i64 (S.n : Int))).setCell ⟨p + 1, 1, none⟩ (.int .i64 (S.d : Int))).setCell ⟨p + 1, 2, none⟩ (.int .i64 (S.r : Int))).setCell ⟨p + 1, 3, none⟩ (.slice a1 S.cr.length c1)).setCell ⟨p + 1, 4, none⟩ (.slice a2 S.ws.length c2)).setCell ⟨p + 1, 5, none⟩ (.slice a3' S.far.length c3')).setCell ⟨p + 1, 6, none⟩ (.slice a5 (S.bk.length + 1) c5)) a3' (vi (S.far.set q (x + -1)))) := show Rd _ _ _ from by
    obtain ⟨a, cap, e, _, _, r⟩ := (far7 _ _ _ hps1 HO3.out).rd
    simp only [Value.slice.injEq] at e
    obtain ⟨rfl, -, rfl⟩ := e
    exact r
  have Rb : Hid (Rd (((((((w6.setCell ⟨p + 1, 0, none⟩ (.int .i64 (S.n : Int))).setCell ⟨p + 1, 1, none⟩ (.int .i64 (S.d : Int))).setCell ⟨p + 1, 2, none⟩ (.int .i64 (S.r : Int))).setCell ⟨p + 1, 3, none⟩ (.slice a1 S.cr.length c1)).setCell ⟨p + 1, 4, none⟩ (.slice a2 S.ws.length c2)).setCell ⟨p + 1, 5, none⟩ (.slice a3' S.far.length c3')).setCell ⟨p + 1, 6, none⟩ (.slice a5 (S.bk.length + 1) c5)) a5 (vi S.bk ++ [.int .i64 (q : Int)])) := show Rd _ _ _ from by
    obtain ⟨a, cap, e, _, _, r⟩ := (far7 _ _ _ hps4 HO5.out).rd
    simp only [Value.slice.injEq] at e
    obtain ⟨rfl, -, rfl⟩ := e
    exact r
  have NW : Hid (New p _ a3') := (New.of (k := 1) (far7 _ _ _ hps1 HO3.out)).mono (by omega)
  have NV : Hid (New p _ a5) := (New.of (k := 1) (far7 _ _ _ hps4 HO5.out)).mono (by omega)
  clear far7 HO3 HO5
  go_wp2
  refine bodyPost_ret (v := .tuple #[.agg #[.int .i64 (S.n : Int), .int .i64 (S.d : Int), .int .i64 (S.r : Int), .slice a1 S.cr.length c1, .slice a2 S.ws.length c2, .slice a3' S.far.length c3', .slice a5 (S.bk.length + 1) c5], .int .i64 0]) (by simp [results, Try.results36, go_sem, y0, y1, y2, y3, y4, y5, y6]; try rfl) rfl ⟨_, rfl, ⟨a1, a2, a3', a5, c1, c2, c3', c5, ?_, ⟨R1.out.below (by rw [HP.out]; exact B7.out), R2.out.below (by rw [HP.out]; exact B7.out), by rw [HXX.out]; exact Rf.out, by rw [← HVB.out]; exact Rb.out⟩, X2.out, by rw [List.length_append]; exact HC5.out⟩, by rw [HP.out]; exact B7.out, by rw [HP.out]; exact src_mk (Fro.refl _ _ _) (Fro.refl _ _ _) (Fro.new NW.out) (Fro.new NV.out)⟩
  unfold lsv
  simp only [List.length_set, List.length_append, List.length_cons, List.length_nil]
end Go.Proofs.Ytihfekcdghmkhaa
