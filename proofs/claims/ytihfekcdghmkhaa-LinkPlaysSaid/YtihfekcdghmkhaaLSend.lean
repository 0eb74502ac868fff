/-
  The walk of the document's Send.
-/
import Derived.Test.YtihfekcdghmkhaaLTaken
namespace Go.Proofs.Ytihfekcdghmkhaa
open Go.RowKit
open RC (Cl cc cv zc cc_len cc_at)

/-- Three new blocks: a link, a word, a link. -/
theorem three_new' (w : World) (t u : TypeId) (cs es ds : Array Value) : Bk (((w.alloc (.cells cs t)).alloc (.cells es u)).alloc (.cells ds t)) w.heap.size cs t ∧ Bk (((w.alloc (.cells cs t)).alloc (.cells es u)).alloc (.cells ds t)) (w.heap.size + 1) es u ∧ Bk (((w.alloc (.cells cs t)).alloc (.cells es u)).alloc (.cells ds t)) (w.heap.size + 1 + 1) ds t ∧ Below w.heap.size w (((w.alloc (.cells cs t)).alloc (.cells es u)).alloc (.cells ds t)) := by
  have e1 : (w.alloc (.cells cs t)).heap.size = w.heap.size + 1 := by simp
  have e2 : ((w.alloc (.cells cs t)).alloc (.cells es u)).heap.size = w.heap.size + 1 + 1 := by simp
  refine ⟨((Bk.new _ _ _).alloc _).alloc _, ?_, ?_, (((Below.refl _ _).alloc (Nat.le_refl _) _).alloc (by rw [e1]; omega) _).alloc (by rw [e2]; omega) _⟩
  · have := (Bk.new (w.alloc (.cells cs t)) es u).alloc (.cells ds t)
    rwa [e1] at this
  · have := Bk.new ((w.alloc (.cells cs t)).alloc (.cells es u)) ds t
    rwa [e2] at this

set_option maxRecDepth 100000 in
set_option maxHeartbeats 8000000 in
theorem send_arg (S : LS) (v : Value) (k : Int) (xw : Int) (w : World) (hv : RefAt w v S) (hk : ¬ (0 ≤ k ∧ k < (S.n : Int))) :
    Calls Try.prog 34 #[v, cv ⟨k, xw⟩] w fun e w' => e = .returned (.tuple #[v, .int .i64 1]) ∧ Below w.heap.size w w' := by
  obtain ⟨a1, a2, a3, a4, c1, c2, c3, c4, rfl, ⟨r1, r2, r3, r4⟩, x2, x4⟩ := hv
  unfold lsv
  have R1 : Hid (Rd w a1 (vi S.cr)) := r1
  have R2 : Hid (Rd w a2 (S.ws.flatMap cc)) := r2
  have R3 : Hid (Rd w a3 (vi S.far)) := r3
  have R4 : Hid (Rd w a4 (vi S.bk)) := r4
  have X2 : Hid (S.ws.length ≤ c2 ∧ c2 ≤ maxLen ∧ (a2 = none → S.ws.length = 0 ∧ c2 = 0)) := x2
  have X4 : Hid (S.bk.length ≤ c4 ∧ c4 ≤ maxLen ∧ (a4 = none → S.bk.length = 0 ∧ c4 = 0)) := x4
  clear r1 r2 r3 r4 x2 x4
  have IC := fun v => is_any (S.n : Int) (S.d : Int) (S.r : Int) _ _ _ _ k v (slices4 a1 a2 a3 a4 S.cr.length S.ws.length S.far.length S.bk.length c1 c2 c3 c4)
  simp only [decide_eq_false hk] at IC
  simp only [cv]
  obtain ⟨q1, q2, q3, q4⟩ := three_new' w 30 35 #[.int .i64 (S.n : Int), .int .i64 (S.d : Int), .int .i64 (S.r : Int), .slice a1 S.cr.length c1, .slice a2 S.ws.length c2, .slice a3 S.far.length c3, .slice a4 S.bk.length c4] #[.int .i64 k, .int .u64 xw] lz
  have P0 : Hid (Bk _ w.heap.size #[.int .i64 (S.n : Int), .int .i64 (S.d : Int), .int .i64 (S.r : Int), .slice a1 S.cr.length c1, .slice a2 S.ws.length c2, .slice a3 S.far.length c3, .slice a4 S.bk.length c4] 30) := q1
  have K0 : Hid (Bk _ (w.heap.size + 1) #[.int .i64 k, .int .u64 xw] 35) := q2
  have R0 : Hid (Bk _ (w.heap.size + 1 + 1) lz 30) := q3
  have B0 : Hid (Below w.heap.size w _) := q4
  clear q1 q2 q3 q4
  go_enter Try.func34, Try.ntmps34
  go_upto_region 1 with fail
  generalize ((w.alloc (.cells #[.int .i64 (S.n : Int), .int .i64 (S.d : Int), .int .i64 (S.r : Int), .slice a1 S.cr.length c1, .slice a2 S.ws.length c2, .slice a3 S.far.length c3, .slice a4 S.bk.length c4] 30)).alloc (.cells #[.int .i64 k, .int .u64 xw] 35)).alloc (.cells lz 30) = v0 at *
  obtain ⟨p, hp⟩ : ∃ p, w.heap.size = p := ⟨_, rfl⟩
  have HP : Hid (w.heap.size = p) := hp
  rw [hp] at P0 K0 R0 B0 ⊢
  clear hp
  have d0 := P0.out.cell 0
  have d1 := P0.out.cell 1
  have d2 := P0.out.cell 2
  have d3 := P0.out.cell 3
  have d4 := P0.out.cell 4
  have d5 := P0.out.cell 5
  have d6 := P0.out.cell 6
  simp only [List.getElem?_toArray, List.getElem?_cons_zero, List.getElem?_cons_succ] at d0 d1 d2 d3 d4 d5 d6
  have k0 := K0.out.cell 0
  have k1 := K0.out.cell 1
  simp only [List.getElem?_toArray, List.getElem?_cons_zero, List.getElem?_cons_succ] at k0 k1
  go_wp2_with fail
  go_at_call 39
  with_reducible refine (IC _).mono ?_
  rintro e w1 ⟨rfl, h1⟩
  have P1 : Hid (Bk w1 p #[.int .i64 (S.n : Int), .int .i64 (S.d : Int), .int .i64 (S.r : Int), .slice a1 S.cr.length c1, .slice a2 S.ws.length c2, .slice a3 S.far.length c3, .slice a4 S.bk.length c4] 30) := P0.out.next h1
  have K1 : Hid (Bk w1 (p + 1) #[.int .i64 k, .int .u64 xw] 35) := K0.out.next h1
  have R1' : Hid (Bk w1 (p + 1 + 1) lz 30) := R0.out.next h1
  have B1 : Hid (Below p w w1) := B0.out.trans (h1.mono (Nat.le_of_lt P0.out.lt))
  clear P0 K0 R0 B0 h1 IC d0 d1 d2 d3 d4 d5 d6 k0 k1
  have d0 := P1.out.cell 0
  have d1 := P1.out.cell 1
  have d2 := P1.out.cell 2
  have d3 := P1.out.cell 3
  have d4 := P1.out.cell 4
  have d5 := P1.out.cell 5
  have d6 := P1.out.cell 6
  simp only [List.getElem?_toArray, List.getElem?_cons_zero, List.getElem?_cons_succ] at d0 d1 d2 d3 d4 d5 d6
  have k0 := K1.out.cell 0
  have k1 := K1.out.cell 1
  simp only [List.getElem?_toArray, List.getElem?_cons_zero, List.getElem?_cons_succ] at k0 k1
  have e0 := R1'.out.cell 0
  have e1 := R1'.out.cell 1
  have e2 := R1'.out.cell 2
  have e3 := R1'.out.cell 3
  have e4 := R1'.out.cell 4
  have e5 := R1'.out.cell 5
  have e6 := R1'.out.cell 6
  simp only [List.getElem?_toArray, List.getElem?_cons_zero, List.getElem?_cons_succ] at e0 e1 e2 e3 e4 e5 e6
  have z0 := R1'.out.free 0
  have z1 := R1'.out.free 1
  have z2 := R1'.out.free 2
  have z3 := R1'.out.free 3
  have z4 := R1'.out.free 4
  have z5 := R1'.out.free 5
  have z6 := R1'.out.free 6
  have YY := seven_at R1'.out (.int .i64 (S.n : Int)) (.int .i64 (S.d : Int)) (.int .i64 (S.r : Int)) (.slice a1 S.cr.length c1) (.slice a2 S.ws.length c2) (.slice a3 S.far.length c3) (.slice a4 S.bk.length c4)
  have y0 := YY.cell 0
  have y1 := YY.cell 1
  have y2 := YY.cell 2
  have y3 := YY.cell 3
  have y4 := YY.cell 4
  have y5 := YY.cell 5
  have y6 := YY.cell 6
  simp only [List.getElem?_toArray, List.getElem?_cons_zero, List.getElem?_cons_succ] at y0 y1 y2 y3 y4 y5 y6
  clear YY
  go_wp2
  refine bodyPost_ret (v := .tuple #[.agg #[.int .i64 (S.n : Int), .int .i64 (S.d : Int), .int .i64 (S.r : Int), .slice a1 S.cr.length c1, .slice a2 S.ws.length c2, .slice a3 S.far.length c3, .slice a4 S.bk.length c4], .int .i64 1]) (by simp [results, Try.results34, go_sem, y0, y1, y2, y3, y4, y5, y6]; try rfl) rfl ⟨rfl, by rw [HP.out]; exact below_seven B1.out (by omega) _ _ _ _ _ _ _⟩
set_option maxRecDepth 100000 in
set_option maxHeartbeats 8000000 in
theorem send_empty (S : LS) (v : Value) (q : Nat) (xw : Int) (w : World) (hv : RefAt w v S) (hqn : q < S.n) (hq : q < S.cr.length) (hz : S.cr.getD q 0 = 0) :
    Calls Try.prog 34 #[v, cv ⟨(q : Int), xw⟩] w fun e w' => e = .returned (.tuple #[v, .int .i64 8]) ∧ Below w.heap.size w w' := by
  obtain ⟨a1, a2, a3, a4, c1, c2, c3, c4, rfl, ⟨r1, r2, r3, r4⟩, x2, x4⟩ := hv
  unfold lsv
  have R1 : Hid (Rd w a1 (vi S.cr)) := r1
  have R2 : Hid (Rd w a2 (S.ws.flatMap cc)) := r2
  have R3 : Hid (Rd w a3 (vi S.far)) := r3
  have R4 : Hid (Rd w a4 (vi S.bk)) := r4
  have X2 : Hid (S.ws.length ≤ c2 ∧ c2 ≤ maxLen ∧ (a2 = none → S.ws.length = 0 ∧ c2 = 0)) := x2
  have X4 : Hid (S.bk.length ≤ c4 ∧ c4 ≤ maxLen ∧ (a4 = none → S.bk.length = 0 ∧ c4 = 0)) := x4
  clear r1 r2 r3 r4 x2 x4
  have IC := fun v => is_any (S.n : Int) (S.d : Int) (S.r : Int) _ _ _ _ (q : Int) v (slices4 a1 a2 a3 a4 S.cr.length S.ws.length S.far.length S.bk.length c1 c2 c3 c4)
  simp only [decide_eq_true (⟨by omega, by omega⟩ : 0 ≤ (q : Int) ∧ (q : Int) < (S.n : Int))] at IC
  simp only [cv]
  obtain ⟨q1, q2, q3, q4⟩ := three_new' w 30 35 #[.int .i64 (S.n : Int), .int .i64 (S.d : Int), .int .i64 (S.r : Int), .slice a1 S.cr.length c1, .slice a2 S.ws.length c2, .slice a3 S.far.length c3, .slice a4 S.bk.length c4] #[.int .i64 (q : Int), .int .u64 xw] lz
  have P0 : Hid (Bk _ w.heap.size #[.int .i64 (S.n : Int), .int .i64 (S.d : Int), .int .i64 (S.r : Int), .slice a1 S.cr.length c1, .slice a2 S.ws.length c2, .slice a3 S.far.length c3, .slice a4 S.bk.length c4] 30) := q1
  have K0 : Hid (Bk _ (w.heap.size + 1) #[.int .i64 (q : Int), .int .u64 xw] 35) := q2
  have R0 : Hid (Bk _ (w.heap.size + 1 + 1) lz 30) := q3
  have B0 : Hid (Below w.heap.size w _) := q4
  clear q1 q2 q3 q4
  go_enter Try.func34, Try.ntmps34
  go_upto_region 1 with fail
  generalize ((w.alloc (.cells #[.int .i64 (S.n : Int), .int .i64 (S.d : Int), .int .i64 (S.r : Int), .slice a1 S.cr.length c1, .slice a2 S.ws.length c2, .slice a3 S.far.length c3, .slice a4 S.bk.length c4] 30)).alloc (.cells #[.int .i64 (q : Int), .int .u64 xw] 35)).alloc (.cells lz 30) = v0 at *
  obtain ⟨p, hp⟩ : ∃ p, w.heap.size = p := ⟨_, rfl⟩
  have HP : Hid (w.heap.size = p) := hp
  rw [hp] at P0 K0 R0 B0 ⊢
  clear hp
  have d0 := P0.out.cell 0
  have d1 := P0.out.cell 1
  have d2 := P0.out.cell 2
  have d3 := P0.out.cell 3
  have d4 := P0.out.cell 4
  have d5 := P0.out.cell 5
  have d6 := P0.out.cell 6
  simp only [List.getElem?_toArray, List.getElem?_cons_zero, List.getElem?_cons_succ] at d0 d1 d2 d3 d4 d5 d6
  have k0 := K0.out.cell 0
  have k1 := K0.out.cell 1
  simp only [List.getElem?_toArray, List.getElem?_cons_zero, List.getElem?_cons_succ] at k0 k1
  go_wp2_with fail
  go_at_call 39
  with_reducible refine (IC _).mono ?_
  rintro e w1 ⟨rfl, h1⟩
  have P1 : Hid (Bk w1 p #[.int .i64 (S.n : Int), .int .i64 (S.d : Int), .int .i64 (S.r : Int), .slice a1 S.cr.length c1, .slice a2 S.ws.length c2, .slice a3 S.far.length c3, .slice a4 S.bk.length c4] 30) := P0.out.next h1
  have K1 : Hid (Bk w1 (p + 1) #[.int .i64 (q : Int), .int .u64 xw] 35) := K0.out.next h1
  have R1' : Hid (Bk w1 (p + 1 + 1) lz 30) := R0.out.next h1
  have B1 : Hid (Below p w w1) := B0.out.trans (h1.mono (Nat.le_of_lt P0.out.lt))
  clear P0 K0 R0 B0 h1 IC d0 d1 d2 d3 d4 d5 d6 k0 k1
  obtain ⟨g, o, rfl, hg, hc⟩ := R1.out q _ (vi_at hq)
  have hc1 := (B1.out.cell (p := ⟨g, o + q, none⟩) (by rw [← HP.out]; exact hg)).trans hc
  have e1 : (q : Int) < (S.cr.length : Int) := by omega
  have e0 : (0 : Int) ≤ (q : Int) := by omega
  rw [hz] at hc1
  have d0 := P1.out.cell 0
  have d1 := P1.out.cell 1
  have d2 := P1.out.cell 2
  have d3 := P1.out.cell 3
  have d4 := P1.out.cell 4
  have d5 := P1.out.cell 5
  have d6 := P1.out.cell 6
  simp only [List.getElem?_toArray, List.getElem?_cons_zero, List.getElem?_cons_succ] at d0 d1 d2 d3 d4 d5 d6
  have k0 := K1.out.cell 0
  have k1 := K1.out.cell 1
  simp only [List.getElem?_toArray, List.getElem?_cons_zero, List.getElem?_cons_succ] at k0 k1
  have e0 := R1'.out.cell 0
  have e1 := R1'.out.cell 1
  have e2 := R1'.out.cell 2
  have e3 := R1'.out.cell 3
  have e4 := R1'.out.cell 4
  have e5 := R1'.out.cell 5
  have e6 := R1'.out.cell 6
  simp only [List.getElem?_toArray, List.getElem?_cons_zero, List.getElem?_cons_succ] at e0 e1 e2 e3 e4 e5 e6
  have z0 := R1'.out.free 0
  have z1 := R1'.out.free 1
  have z2 := R1'.out.free 2
  have z3 := R1'.out.free 3
  have z4 := R1'.out.free 4
  have z5 := R1'.out.free 5
  have z6 := R1'.out.free 6
  have YY := seven_at R1'.out (.int .i64 (S.n : Int)) (.int .i64 (S.d : Int)) (.int .i64 (S.r : Int)) (.slice (some ⟨g, o, none⟩) S.cr.length c1) (.slice a2 S.ws.length c2) (.slice a3 S.far.length c3) (.slice a4 S.bk.length c4)
  have y0 := YY.cell 0
  have y1 := YY.cell 1
  have y2 := YY.cell 2
  have y3 := YY.cell 3
  have y4 := YY.cell 4
  have y5 := YY.cell 5
  have y6 := YY.cell 6
  simp only [List.getElem?_toArray, List.getElem?_cons_zero, List.getElem?_cons_succ] at y0 y1 y2 y3 y4 y5 y6
  clear YY
  go_wp2
  refine bodyPost_ret (v := .tuple #[.agg #[.int .i64 (S.n : Int), .int .i64 (S.d : Int), .int .i64 (S.r : Int), .slice (some ⟨g, o, none⟩) S.cr.length c1, .slice a2 S.ws.length c2, .slice a3 S.far.length c3, .slice a4 S.bk.length c4], .int .i64 8]) (by simp [results, Try.results34, go_sem, y0, y1, y2, y3, y4, y5, y6]; try rfl) rfl ⟨rfl, by rw [HP.out]; exact below_seven B1.out (by omega) _ _ _ _ _ _ _⟩
set_option maxRecDepth 100000 in
set_option maxHeartbeats 8000000 in
theorem send_full (S : LS) (v : Value) (q : Nat) (xw : Int) (w : World) (hv : RefAt w v S) (hqn : q < S.n) (hq : q < S.cr.length) (hz : ¬ S.cr.getD q 0 = 0) (hf : S.r ≤ S.ws.length) :
    Calls Try.prog 34 #[v, cv ⟨(q : Int), xw⟩] w fun e w' => e = .returned (.tuple #[v, .int .i64 7]) ∧ Below w.heap.size w w' := by
  obtain ⟨a1, a2, a3, a4, c1, c2, c3, c4, rfl, ⟨r1, r2, r3, r4⟩, x2, x4⟩ := hv
  unfold lsv
  have R1 : Hid (Rd w a1 (vi S.cr)) := r1
  have R2 : Hid (Rd w a2 (S.ws.flatMap cc)) := r2
  have R3 : Hid (Rd w a3 (vi S.far)) := r3
  have R4 : Hid (Rd w a4 (vi S.bk)) := r4
  have X2 : Hid (S.ws.length ≤ c2 ∧ c2 ≤ maxLen ∧ (a2 = none → S.ws.length = 0 ∧ c2 = 0)) := x2
  have X4 : Hid (S.bk.length ≤ c4 ∧ c4 ≤ maxLen ∧ (a4 = none → S.bk.length = 0 ∧ c4 = 0)) := x4
  clear r1 r2 r3 r4 x2 x4
  have IC := fun v => is_any (S.n : Int) (S.d : Int) (S.r : Int) _ _ _ _ (q : Int) v (slices4 a1 a2 a3 a4 S.cr.length S.ws.length S.far.length S.bk.length c1 c2 c3 c4)
  simp only [decide_eq_true (⟨by omega, by omega⟩ : 0 ≤ (q : Int) ∧ (q : Int) < (S.n : Int))] at IC
  simp only [cv]
  obtain ⟨q1, q2, q3, q4⟩ := three_new' w 30 35 #[.int .i64 (S.n : Int), .int .i64 (S.d : Int), .int .i64 (S.r : Int), .slice a1 S.cr.length c1, .slice a2 S.ws.length c2, .slice a3 S.far.length c3, .slice a4 S.bk.length c4] #[.int .i64 (q : Int), .int .u64 xw] lz
  have P0 : Hid (Bk _ w.heap.size #[.int .i64 (S.n : Int), .int .i64 (S.d : Int), .int .i64 (S.r : Int), .slice a1 S.cr.length c1, .slice a2 S.ws.length c2, .slice a3 S.far.length c3, .slice a4 S.bk.length c4] 30) := q1
  have K0 : Hid (Bk _ (w.heap.size + 1) #[.int .i64 (q : Int), .int .u64 xw] 35) := q2
  have R0 : Hid (Bk _ (w.heap.size + 1 + 1) lz 30) := q3
  have B0 : Hid (Below w.heap.size w _) := q4
  clear q1 q2 q3 q4
  go_enter Try.func34, Try.ntmps34
  go_upto_region 1 with fail
  generalize ((w.alloc (.cells #[.int .i64 (S.n : Int), .int .i64 (S.d : Int), .int .i64 (S.r : Int), .slice a1 S.cr.length c1, .slice a2 S.ws.length c2, .slice a3 S.far.length c3, .slice a4 S.bk.length c4] 30)).alloc (.cells #[.int .i64 (q : Int), .int .u64 xw] 35)).alloc (.cells lz 30) = v0 at *
  obtain ⟨p, hp⟩ : ∃ p, w.heap.size = p := ⟨_, rfl⟩
  have HP : Hid (w.heap.size = p) := hp
  rw [hp] at P0 K0 R0 B0 ⊢
  clear hp
  have d0 := P0.out.cell 0
  have d1 := P0.out.cell 1
  have d2 := P0.out.cell 2
  have d3 := P0.out.cell 3
  have d4 := P0.out.cell 4
  have d5 := P0.out.cell 5
  have d6 := P0.out.cell 6
  simp only [List.getElem?_toArray, List.getElem?_cons_zero, List.getElem?_cons_succ] at d0 d1 d2 d3 d4 d5 d6
  have k0 := K0.out.cell 0
  have k1 := K0.out.cell 1
  simp only [List.getElem?_toArray, List.getElem?_cons_zero, List.getElem?_cons_succ] at k0 k1
  go_wp2_with fail
  go_at_call 39
  with_reducible refine (IC _).mono ?_
  rintro e w1 ⟨rfl, h1⟩
  have P1 : Hid (Bk w1 p #[.int .i64 (S.n : Int), .int .i64 (S.d : Int), .int .i64 (S.r : Int), .slice a1 S.cr.length c1, .slice a2 S.ws.length c2, .slice a3 S.far.length c3, .slice a4 S.bk.length c4] 30) := P0.out.next h1
  have K1 : Hid (Bk w1 (p + 1) #[.int .i64 (q : Int), .int .u64 xw] 35) := K0.out.next h1
  have R1' : Hid (Bk w1 (p + 1 + 1) lz 30) := R0.out.next h1
  have B1 : Hid (Below p w w1) := B0.out.trans (h1.mono (Nat.le_of_lt P0.out.lt))
  clear P0 K0 R0 B0 h1 IC d0 d1 d2 d3 d4 d5 d6 k0 k1
  obtain ⟨g, o, rfl, hg, hc⟩ := R1.out q _ (vi_at hq)
  have hc1 := (B1.out.cell (p := ⟨g, o + q, none⟩) (by rw [← HP.out]; exact hg)).trans hc
  have e1 : (q : Int) < (S.cr.length : Int) := by omega
  have e0 : (0 : Int) ≤ (q : Int) := by omega
  obtain ⟨x, hxx⟩ : ∃ x, S.cr.getD q 0 = x := ⟨_, rfl⟩
  rw [hxx] at hc1 hz
  have hz' : (x == 0) = false := beq_false_of_ne hz
  have hf' : (S.r : Int) ≤ (S.ws.length : Int) := by omega
  clear hxx hc
  have d0 := P1.out.cell 0
  have d1 := P1.out.cell 1
  have d2 := P1.out.cell 2
  have d3 := P1.out.cell 3
  have d4 := P1.out.cell 4
  have d5 := P1.out.cell 5
  have d6 := P1.out.cell 6
  simp only [List.getElem?_toArray, List.getElem?_cons_zero, List.getElem?_cons_succ] at d0 d1 d2 d3 d4 d5 d6
  have k0 := K1.out.cell 0
  have k1 := K1.out.cell 1
  simp only [List.getElem?_toArray, List.getElem?_cons_zero, List.getElem?_cons_succ] at k0 k1
  have e0 := R1'.out.cell 0
  have e1 := R1'.out.cell 1
  have e2 := R1'.out.cell 2
  have e3 := R1'.out.cell 3
  have e4 := R1'.out.cell 4
  have e5 := R1'.out.cell 5
  have e6 := R1'.out.cell 6
  simp only [List.getElem?_toArray, List.getElem?_cons_zero, List.getElem?_cons_succ] at e0 e1 e2 e3 e4 e5 e6
  have z0 := R1'.out.free 0
  have z1 := R1'.out.free 1
  have z2 := R1'.out.free 2
  have z3 := R1'.out.free 3
  have z4 := R1'.out.free 4
  have z5 := R1'.out.free 5
  have z6 := R1'.out.free 6
  have YY := seven_at R1'.out (.int .i64 (S.n : Int)) (.int .i64 (S.d : Int)) (.int .i64 (S.r : Int)) (.slice (some ⟨g, o, none⟩) S.cr.length c1) (.slice a2 S.ws.length c2) (.slice a3 S.far.length c3) (.slice a4 S.bk.length c4)
  have y0 := YY.cell 0
  have y1 := YY.cell 1
  have y2 := YY.cell 2
  have y3 := YY.cell 3
  have y4 := YY.cell 4
  have y5 := YY.cell 5
  have y6 := YY.cell 6
  simp only [List.getElem?_toArray, List.getElem?_cons_zero, List.getElem?_cons_succ] at y0 y1 y2 y3 y4 y5 y6
  clear YY
  go_wp2
  refine bodyPost_ret (v := .tuple #[.agg #[.int .i64 (S.n : Int), .int .i64 (S.d : Int), .int .i64 (S.r : Int), .slice (some ⟨g, o, none⟩) S.cr.length c1, .slice a2 S.ws.length c2, .slice a3 S.far.length c3, .slice a4 S.bk.length c4], .int .i64 7]) (by simp [results, Try.results34, go_sem, y0, y1, y2, y3, y4, y5, y6]; try rfl) rfl ⟨rfl, by rw [HP.out]; exact below_seven B1.out (by omega) _ _ _ _ _ _ _⟩
theorem Try.info35 : (Try.prog.info? 35).map (fun i => (i.zero, i.size, i.bytes)) = some (some (.agg #[.int .i64 0, .int .u64 0]), 2, 16) := by kernel_rfl
set_option maxRecDepth 100000 in
set_option maxHeartbeats 16000000 in
theorem send_ok (S : LS) (v : Value) (q : Nat) (xw : Int) (w : World) (hv : RefAt w v S) (hqn : q < S.n) (hq : q < S.cr.length) (hn : S.cr.length ≤ 1000) (hz : ¬ S.cr.getD q 0 = 0) (hx : -9223372036854775808 ≤ S.cr.getD q 0 + -1 ∧ S.cr.getD q 0 + -1 ≤ 9223372036854775807) (hf : ¬ S.r ≤ S.ws.length) (hbk : S.ws.length ≤ 100000) :
    Calls Try.prog 34 #[v, cv ⟨(q : Int), xw⟩] w fun e w' => ∃ v', e = .returned (.tuple #[v', .int .i64 0]) ∧ RefAt w' v' { S with cr := S.cr.set q (S.cr.getD q 0 + -1), ws := S.ws ++ [⟨(q : Int), xw⟩] } ∧ Below w.heap.size w w' ∧ Src w.heap.size w'.heap.size v v' := by
  obtain ⟨i0, ki, hz0, hz1, hz2⟩ := info_parts Try.info35
  obtain ⟨a1, a2, a3, a4, c1, c2, c3, c4, rfl, ⟨r1, r2, r3, r4⟩, x2, x4⟩ := hv
  unfold lsv
  have R1 : Hid (Rd w a1 (vi S.cr)) := r1
  have R2 : Hid (Rd w a2 (S.ws.flatMap cc)) := r2
  have R3 : Hid (Rd w a3 (vi S.far)) := r3
  have R4 : Hid (Rd w a4 (vi S.bk)) := r4
  have X2 : Hid (S.ws.length ≤ c2 ∧ c2 ≤ maxLen ∧ (a2 = none → S.ws.length = 0 ∧ c2 = 0)) := x2
  have X4 : Hid (S.bk.length ≤ c4 ∧ c4 ≤ maxLen ∧ (a4 = none → S.bk.length = 0 ∧ c4 = 0)) := x4
  clear r1 r2 r3 r4 x2 x4
  have IC := fun v => is_any (S.n : Int) (S.d : Int) (S.r : Int) _ _ _ _ (q : Int) v (slices4 a1 a2 a3 a4 S.cr.length S.ws.length S.far.length S.bk.length c1 c2 c3 c4)
  simp only [decide_eq_true (⟨by omega, by omega⟩ : 0 ≤ (q : Int) ∧ (q : Int) < (S.n : Int))] at IC
  simp only [cv]
  obtain ⟨q1, q2, q3, q4⟩ := three_new' w 30 35 #[.int .i64 (S.n : Int), .int .i64 (S.d : Int), .int .i64 (S.r : Int), .slice a1 S.cr.length c1, .slice a2 S.ws.length c2, .slice a3 S.far.length c3, .slice a4 S.bk.length c4] #[.int .i64 (q : Int), .int .u64 xw] lz
  have P0 : Hid (Bk _ w.heap.size #[.int .i64 (S.n : Int), .int .i64 (S.d : Int), .int .i64 (S.r : Int), .slice a1 S.cr.length c1, .slice a2 S.ws.length c2, .slice a3 S.far.length c3, .slice a4 S.bk.length c4] 30) := q1
  have K0 : Hid (Bk _ (w.heap.size + 1) #[.int .i64 (q : Int), .int .u64 xw] 35) := q2
  have R0 : Hid (Bk _ (w.heap.size + 1 + 1) lz 30) := q3
  have B0 : Hid (Below w.heap.size w _) := q4
  clear q1 q2 q3 q4
  go_enter Try.func34, Try.ntmps34
  go_upto_region 1 with fail
  generalize ((w.alloc (.cells #[.int .i64 (S.n : Int), .int .i64 (S.d : Int), .int .i64 (S.r : Int), .slice a1 S.cr.length c1, .slice a2 S.ws.length c2, .slice a3 S.far.length c3, .slice a4 S.bk.length c4] 30)).alloc (.cells #[.int .i64 (q : Int), .int .u64 xw] 35)).alloc (.cells lz 30) = v0 at *
  obtain ⟨p, hp⟩ : ∃ p, w.heap.size = p := ⟨_, rfl⟩
  have HP : Hid (w.heap.size = p) := hp
  rw [hp] at P0 K0 R0 B0 ⊢
  clear hp
  have d0 := P0.out.cell 0
  have d1 := P0.out.cell 1
  have d2 := P0.out.cell 2
  have d3 := P0.out.cell 3
  have d4 := P0.out.cell 4
  have d5 := P0.out.cell 5
  have d6 := P0.out.cell 6
  simp only [List.getElem?_toArray, List.getElem?_cons_zero, List.getElem?_cons_succ] at d0 d1 d2 d3 d4 d5 d6
  have k0 := K0.out.cell 0
  have k1 := K0.out.cell 1
  simp only [List.getElem?_toArray, List.getElem?_cons_zero, List.getElem?_cons_succ] at k0 k1
  go_wp2_with fail
  go_at_call 39
  with_reducible refine (IC _).mono ?_
  rintro e w1 ⟨rfl, h1⟩
  have P1 : Hid (Bk w1 p #[.int .i64 (S.n : Int), .int .i64 (S.d : Int), .int .i64 (S.r : Int), .slice a1 S.cr.length c1, .slice a2 S.ws.length c2, .slice a3 S.far.length c3, .slice a4 S.bk.length c4] 30) := P0.out.next h1
  have K1 : Hid (Bk w1 (p + 1) #[.int .i64 (q : Int), .int .u64 xw] 35) := K0.out.next h1
  have R1' : Hid (Bk w1 (p + 1 + 1) lz 30) := R0.out.next h1
  have B1 : Hid (Below p w w1) := B0.out.trans (h1.mono (Nat.le_of_lt P0.out.lt))
  clear P0 K0 R0 B0 h1 IC d0 d1 d2 d3 d4 d5 d6 k0 k1
  obtain ⟨g, o, rfl, hg, hc⟩ := R1.out q _ (vi_at hq)
  have WC := fun V (h : Rd V (some ⟨g, o, none⟩) (vi S.cr)) => with_any S.cr (some ⟨g, o, none⟩) c1 q (-1) V h hq hn hx
  have hc1 := (B1.out.cell (p := ⟨g, o + q, none⟩) (by rw [← HP.out]; exact hg)).trans hc
  have e1 : (q : Int) < (S.cr.length : Int) := by omega
  have e0 : (0 : Int) ≤ (q : Int) := by omega
  have hf' : ¬ (S.r : Int) ≤ (S.ws.length : Int) := by omega
  have WC1 := WC w1 (R1.out.below (by rw [HP.out]; exact B1.out))
  clear WC hx
  obtain ⟨x, hxx⟩ : ∃ x, S.cr.getD q 0 = x := ⟨_, rfl⟩
  rw [hxx] at hc1 hz WC1
  have HXX : Hid (S.cr.getD q 0 = x) := hxx
  have hz' : (x == 0) = false := beq_false_of_ne hz
  clear hxx hc
  have d0 := P1.out.cell 0
  have d1 := P1.out.cell 1
  have d2 := P1.out.cell 2
  have d3 := P1.out.cell 3
  have d4 := P1.out.cell 4
  have d5 := P1.out.cell 5
  have d6 := P1.out.cell 6
  simp only [List.getElem?_toArray, List.getElem?_cons_zero, List.getElem?_cons_succ] at d0 d1 d2 d3 d4 d5 d6
  have k0 := K1.out.cell 0
  have k1 := K1.out.cell 1
  simp only [List.getElem?_toArray, List.getElem?_cons_zero, List.getElem?_cons_succ] at k0 k1
  go_upto_region 8 with (go_at_call 48; (with_reducible refine WC1.mono ?_); rintro e w2 ⟨nv, rfl, ow, h2⟩; obtain ⟨a1', c1', rfl, -, -, rd2⟩ := ow.rd; have P2 : Hid (Bk w2 p #[.int .i64 (S.n : Int), .int .i64 (S.d : Int), .int .i64 (S.r : Int), .slice (some ⟨g, o, none⟩) S.cr.length c1, .slice a2 S.ws.length c2, .slice a3 S.far.length c3, .slice a4 S.bk.length c4] 30) := P1.out.next h2; have u3 := P2.out.cell 3; have z3 := P2.out.free 3; simp only [List.getElem?_toArray, List.getElem?_cons_zero, List.getElem?_cons_succ] at u3)
  have LQ : (vi (S.cr.set q (x + -1))).length = S.cr.length := by rw [vi_len, List.length_set]
  rw [LQ]
  have hps : p < w1.heap.size := P1.out.lt
  have hps1 : p + 1 + 1 < w1.heap.size := R1'.out.lt
  have HOW2 : Hid (Own 3 w2 w1.heap.size (.slice a1' S.cr.length c1') (vi (S.cr.set q (x + -1)))) := (LQ ▸ ow : Own 3 w2 w1.heap.size (.slice a1' S.cr.length c1') (vi (S.cr.set q (x + -1))))
  have P3 : Hid (Bk (w2.setCell ⟨p, 3, none⟩ (.slice a1' S.cr.length c1')) p #[.int .i64 (S.n : Int), .int .i64 (S.d : Int), .int .i64 (S.r : Int), .slice a1' S.cr.length c1', .slice a2 S.ws.length c2, .slice a3 S.far.length c3, .slice a4 S.bk.length c4] 30) := show Bk _ _ _ _ from by simpa using P2.set 3 (.slice a1' S.cr.length c1')
  have K3 : Hid (Bk (w2.setCell ⟨p, 3, none⟩ (.slice a1' S.cr.length c1')) (p + 1) #[.int .i64 (q : Int), .int .u64 xw] 35) := (K1.out.next h2).far (by omega)
  have R3' : Hid (Bk (w2.setCell ⟨p, 3, none⟩ (.slice a1' S.cr.length c1')) (p + 1 + 1) lz 30) := (R1'.out.next h2).far (by omega)
  have B3 : Hid (Below p w (w2.setCell ⟨p, 3, none⟩ (.slice a1' S.cr.length c1'))) := (B1.out.trans (h2.mono (Nat.le_of_lt hps))).setCell (Nat.le_refl _) _
  have HOW3 : Hid (Own 3 (w2.setCell ⟨p, 3, none⟩ (.slice a1' S.cr.length c1')) w1.heap.size (.slice a1' S.cr.length c1') (vi (S.cr.set q (x + -1)))) := OwnK.far (k := 1) HOW2.out hps
  clear P2 P1 K1 R1' B1 HOW2 WC1 ow rd2 h2 u3 z3 d0 d1 d2 d3 d4 d5 d6 k0 k1 hc1
  generalize w2.setCell ⟨p, 3, none⟩ (.slice a1' S.cr.length c1') = w3 at *
  have RD : Rd w3 a2 (S.ws.flatMap cc) := R2.out.below (by rw [HP.out]; exact B3.out)
  have own0 : OwnK 35 2 w3 w3.heap.size (.slice none 0 0) 0 [] := OwnK.nil _ _ _ _
  have hm : (S.ws.flatMap cc).length = S.ws.length * 2 := cc_len _
  have VO := cc_one S.ws
  have hnil := X2.out.2.2
  have hl2 : 0 + S.ws.length ≤ 1000000 := by omega
  have hll : S.ws.length ≤ 1000000 := by omega
  have hps3 : p < w3.heap.size := P3.out.lt
  have hps4 : p + 1 + 1 < w3.heap.size := R3'.out.lt
  have d4 := P3.out.cell 4
  simp only [List.getElem?_toArray, List.getElem?_cons_zero, List.getElem?_cons_succ] at d4
  go_upto_region 10 with (at_builtin; go_loud (refine wpList_app_srck rfl (.tmp 34) (.tmp 36) 28 35 i0 (.agg #[.int .i64 0, .int .u64 0]) 2 16 rfl Try.underlying28 ki hz0 hz1 hz2 rfl (by decide) (by decide) w3.heap.size w3 (.slice none 0 0) 0 [] rfl own0 a2 S.ws.length c2 rfl hnil (S.ws.flatMap cc) hm RD VO hl2 (Nat.le_refl _) ?_; intro v4 w4 o4 g4; have own4 : OwnK 35 2 w4 w3.heap.size v4 S.ws.length (S.ws.flatMap cc) := (by rw [Nat.zero_add, List.nil_append] at o4; exact o4); have B34 : Hid (Below w3.heap.size w3 w4) := (Below.refl _ _).grown g4 (Nat.le_refl _) (fun q hq => by simp [Value.ownBlock] at hq)))
  have hsz : w3.heap.size ≤ w4.heap.size := B34.out.size
  clear d4 RD own0 hm VO hnil hl2 o4 g4
  have P4 : Bk w4 p #[.int .i64 (S.n : Int), .int .i64 (S.d : Int), .int .i64 (S.r : Int), .slice a1' S.cr.length c1', .slice a2 S.ws.length c2, .slice a3 S.far.length c3, .slice a4 S.bk.length c4] 30 := P3.out.next B34.out
  have K4 : Bk w4 (p + 1) #[.int .i64 (q : Int), .int .u64 xw] 35 := K3.out.next B34.out
  have k0 := K4.cell 0
  have k1 := K4.cell 1
  simp only [List.getElem?_toArray, List.getElem?_cons_zero, List.getElem?_cons_succ] at k0 k1
  have hone : ∀ u ∈ ([.int .i64 (q : Int), .int .u64 xw] : List Value), u.oneCell' = true := fun u hu => by simp at hu; rcases hu with rfl | rfl <;> rfl
  go_upto_region 11 with (at_builtin; go_loud (refine wpList_app_k rfl (.tmp 38) (.tmp 40) 28 35 i0 (.agg #[.int .i64 0, .int .u64 0]) 2 16 rfl Try.underlying28 ki hz0 hz1 hz2 rfl (by decide) (by decide) w3.heap.size w4 v4 S.ws.length (S.ws.flatMap cc) [.int .i64 (q : Int), .int .u64 xw] rfl own4 rfl rfl hone hll hsz ?_; intro v5 w5 o5 g5; obtain ⟨a5, c5, rfl, hc5, hm5, rd5⟩ := o5.rd (by decide); have B35 : Hid (Below w3.heap.size w3 w5) := Below.grown (B34.out.alloc hsz _) g5 (by simp; omega) (fun q hq => (OwnK.lt own4 hq).1); have P5 : Bk w5 p #[.int .i64 (S.n : Int), .int .i64 (S.d : Int), .int .i64 (S.r : Int), .slice a1' S.cr.length c1', .slice a2 S.ws.length c2, .slice a3 S.far.length c3, .slice a4 S.bk.length c4] 30 := P3.out.next B35.out; have u4 := P5.cell 4; have z4 := P5.free 4; simp only [List.getElem?_toArray, List.getElem?_cons_zero, List.getElem?_cons_succ] at u4))
  have R5' : Bk w5 (p + 1 + 1) lz 30 := R3'.out.next B35.out
  have HVB : Hid (S.ws.flatMap cc ++ [.int .i64 (q : Int), .int .u64 xw] = (S.ws ++ [(⟨(q : Int), xw⟩ : Cl)]).flatMap cc) := show _ from by rw [List.flatMap_append]; rfl
  have HC5 : Hid (S.ws.length + 1 ≤ c5 ∧ c5 ≤ maxLen ∧ (a5 = none → S.ws.length + 1 = 0 ∧ c5 = 0)) := show _ from by
    refine ⟨hc5, hm5, fun h => ?_⟩
    obtain ⟨g2, o2, e2, _⟩ := rd5 (S.ws.length * 2) (.int .i64 (q : Int)) (by rw [List.getElem?_append_right (by rw [cc_len]; exact Nat.le_refl _), cc_len]; simp)
    rw [h] at e2
    cases e2
  have HO5 : Hid (OwnK 35 2 (w5.setCell ⟨p, 4, none⟩ (.slice a5 (S.ws.length + 1) c5)) w3.heap.size (.slice a5 (S.ws.length + 1) c5) (S.ws.length + 1) (S.ws.flatMap cc ++ [.int .i64 (q : Int), .int .u64 xw])) := OwnK.far o5 hps3
  have HO3 : Hid (Own 3 (w5.setCell ⟨p, 4, none⟩ (.slice a5 (S.ws.length + 1) c5)) w1.heap.size (.slice a1' S.cr.length c1') (vi (S.cr.set q (x + -1)))) := OwnK.far (k := 1) (own_next HOW3.out B35.out) hps
  have P6 : Hid (Bk (w5.setCell ⟨p, 4, none⟩ (.slice a5 (S.ws.length + 1) c5)) p #[.int .i64 (S.n : Int), .int .i64 (S.d : Int), .int .i64 (S.r : Int), .slice a1' S.cr.length c1', .slice a5 (S.ws.length + 1) c5, .slice a3 S.far.length c3, .slice a4 S.bk.length c4] 30) := show Bk _ _ _ _ from by simpa using P5.set 4 (.slice a5 (S.ws.length + 1) c5)
  have R6' : Hid (Bk (w5.setCell ⟨p, 4, none⟩ (.slice a5 (S.ws.length + 1) c5)) (p + 1 + 1) lz 30) := R5'.far (by omega)
  have B6 : Hid (Below p w (w5.setCell ⟨p, 4, none⟩ (.slice a5 (S.ws.length + 1) c5))) := (B3.out.trans (B35.out.mono (Nat.le_of_lt hps3))).setCell (Nat.le_refl _) _
  clear P5 R5' P4 K4 B34 B35 P3 K3 R3' B3 HOW3 own4 o5 g5 rd5 hc5 hm5 u4 z4 k0 k1 hone
  generalize w5.setCell ⟨p, 4, none⟩ (.slice a5 (S.ws.length + 1) c5) = w6 at *
  have d0 := P6.out.cell 0
  have d1 := P6.out.cell 1
  have d2 := P6.out.cell 2
  have d3 := P6.out.cell 3
  have d4 := P6.out.cell 4
  have d5 := P6.out.cell 5
  have d6 := P6.out.cell 6
  simp only [List.getElem?_toArray, List.getElem?_cons_zero, List.getElem?_cons_succ] at d0 d1 d2 d3 d4 d5 d6
  have e0 := R6'.out.cell 0
  have e1 := R6'.out.cell 1
  have e2 := R6'.out.cell 2
  have e3 := R6'.out.cell 3
  have e4 := R6'.out.cell 4
  have e5 := R6'.out.cell 5
  have e6 := R6'.out.cell 6
  simp only [List.getElem?_toArray, List.getElem?_cons_zero, List.getElem?_cons_succ] at e0 e1 e2 e3 e4 e5 e6
  have z0 := R6'.out.free 0
  have z1 := R6'.out.free 1
  have z2 := R6'.out.free 2
  have z3 := R6'.out.free 3
  have z4 := R6'.out.free 4
  have z5 := R6'.out.free 5
  have z6 := R6'.out.free 6
  have YY := seven_at R6'.out (.int .i64 (S.n : Int)) (.int .i64 (S.d : Int)) (.int .i64 (S.r : Int)) (.slice a1' S.cr.length c1') (.slice a5 (S.ws.length + 1) c5) (.slice a3 S.far.length c3) (.slice a4 S.bk.length c4)
  have y0 := YY.cell 0
  have y1 := YY.cell 1
  have y2 := YY.cell 2
  have y3 := YY.cell 3
  have y4 := YY.cell 4
  have y5 := YY.cell 5
  have y6 := YY.cell 6
  simp only [List.getElem?_toArray, List.getElem?_cons_zero, List.getElem?_cons_succ] at y0 y1 y2 y3 y4 y5 y6
  clear YY
  have B7 : Hid (Below p w (((((((w6.setCell ⟨p + 1 + 1, 0, none⟩ (.int .i64 (S.n : Int))).setCell ⟨p + 1 + 1, 1, none⟩ (.int .i64 (S.d : Int))).setCell ⟨p + 1 + 1, 2, none⟩ (.int .i64 (S.r : Int))).setCell ⟨p + 1 + 1, 3, none⟩ (.slice a1' S.cr.length c1')).setCell ⟨p + 1 + 1, 4, none⟩ (.slice a5 (S.ws.length + 1) c5)).setCell ⟨p + 1 + 1, 5, none⟩ (.slice a3 S.far.length c3)).setCell ⟨p + 1 + 1, 6, none⟩ (.slice a4 S.bk.length c4))) := below_seven B6.out (by omega) _ _ _ _ _ _ _
  have far7 : ∀ (t : TypeId) (k B : Nat) (v : Value) (n : Nat) (l : List Value), p + 1 + 1 < B → OwnK t k w6 B v n l → OwnK t k (((((((w6.setCell ⟨p + 1 + 1, 0, none⟩ (.int .i64 (S.n : Int))).setCell ⟨p + 1 + 1, 1, none⟩ (.int .i64 (S.d : Int))).setCell ⟨p + 1 + 1, 2, none⟩ (.int .i64 (S.r : Int))).setCell ⟨p + 1 + 1, 3, none⟩ (.slice a1' S.cr.length c1')).setCell ⟨p + 1 + 1, 4, none⟩ (.slice a5 (S.ws.length + 1) c5)).setCell ⟨p + 1 + 1, 5, none⟩ (.slice a3 S.far.length c3)).setCell ⟨p + 1 + 1, 6, none⟩ (.slice a4 S.bk.length c4)) B v n l := fun t k B v n l hB h => OwnK.far (OwnK.far (OwnK.far (OwnK.far (OwnK.far (OwnK.far (OwnK.far h hB) hB) hB) hB) hB) hB) hB
  have Rf : Hid (Rd (((((((w6.setCell ⟨p + 1 + 1, 0, none⟩ (.int .i64 (S.n : Int))).setCell ⟨p + 1 + 1, 1, none⟩ (.int .i64 (S.d : Int))).setCell ⟨p + 1 + 1, 2, none⟩ (.int .i64 (S.r : Int))).setCell ⟨p + 1 + 1, 3, none⟩ (.slice a1' S.cr.length c1')).setCell ⟨p + 1 + 1, 4, none⟩ (.slice a5 (S.ws.length + 1) c5)).setCell ⟨p + 1 + 1, 5, none⟩ (.slice a3 S.far.length c3)).setCell ⟨p + 1 + 1, 6, none⟩ (.slice a4 S.bk.length c4)) a1' (vi (S.cr.set q (x + -1)))) := show Rd _ _ _ from by
    obtain ⟨a, cap, e, _, _, r⟩ := OwnK.rd (far7 _ 1 _ _ _ _ hps1 HO3.out) (by decide)
    simp only [Value.slice.injEq] at e
    obtain ⟨rfl, -, rfl⟩ := e
    exact r
  have Rb : Hid (Rd (((((((w6.setCell ⟨p + 1 + 1, 0, none⟩ (.int .i64 (S.n : Int))).setCell ⟨p + 1 + 1, 1, none⟩ (.int .i64 (S.d : Int))).setCell ⟨p + 1 + 1, 2, none⟩ (.int .i64 (S.r : Int))).setCell ⟨p + 1 + 1, 3, none⟩ (.slice a1' S.cr.length c1')).setCell ⟨p + 1 + 1, 4, none⟩ (.slice a5 (S.ws.length + 1) c5)).setCell ⟨p + 1 + 1, 5, none⟩ (.slice a3 S.far.length c3)).setCell ⟨p + 1 + 1, 6, none⟩ (.slice a4 S.bk.length c4)) a5 (S.ws.flatMap cc ++ [.int .i64 (q : Int), .int .u64 xw])) := show Rd _ _ _ from by
    obtain ⟨a, cap, e, _, _, r⟩ := OwnK.rd (far7 _ 2 _ _ _ _ hps4 HO5.out) (by decide)
    simp only [Value.slice.injEq] at e
    obtain ⟨rfl, -, rfl⟩ := e
    exact r
  have NW : Hid (New p _ a1') := (New.of (far7 _ 1 _ _ _ _ hps1 HO3.out)).mono (by omega)
  have NV : Hid (New p _ a5) := (New.of (far7 _ 2 _ _ _ _ hps4 HO5.out)).mono (by omega)
  clear far7 HO3 HO5
  go_wp2
  refine bodyPost_ret (v := .tuple #[.agg #[.int .i64 (S.n : Int), .int .i64 (S.d : Int), .int .i64 (S.r : Int), .slice a1' S.cr.length c1', .slice a5 (S.ws.length + 1) c5, .slice a3 S.far.length c3, .slice a4 S.bk.length c4], .int .i64 0]) (by simp [results, Try.results34, go_sem, y0, y1, y2, y3, y4, y5, y6]; try rfl) rfl ⟨_, rfl, ⟨a1', a5, a3, a4, c1', c5, c3, c4, ?_, ⟨by rw [HXX.out]; exact Rf.out, by rw [← HVB.out]; exact Rb.out, R3.out.below (by rw [HP.out]; exact B7.out), R4.out.below (by rw [HP.out]; exact B7.out)⟩, by rw [List.length_append]; exact HC5.out, X4.out⟩, by rw [HP.out]; exact B7.out, by rw [HP.out]; exact src_mk (Fro.new NW.out) (Fro.new NV.out) (Fro.refl _ _ _) (Fro.refl _ _ _)⟩
  unfold lsv
  simp only [List.length_set, List.length_append, List.length_cons, List.length_nil]
end Go.Proofs.Ytihfekcdghmkhaa
