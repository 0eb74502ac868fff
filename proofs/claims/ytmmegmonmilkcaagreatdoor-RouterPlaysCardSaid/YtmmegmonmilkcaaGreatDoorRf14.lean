/-
 The document's lane, by value: New, Find, Give. (Written by gen_rf14.py.)
-/
import Derived.Test.YtmmegmonmilkcaaGreatDoorRtBase
namespace Go.Proofs.YtmmegmonmilkcaaGreatDoor
open Go.RowKit
abbrev lac (K : KS) (a : Option Addr) (cap : Nat) : Array Value := (zq2 (K.r : Int) K.ph K.port K.lane a K.ws.length cap K.cp)
abbrev lav (K : KS) (a : Option Addr) (cap : Nat) : Value := .agg (lac K a cap)
abbrev zlac : Array Value := (zq2 0 0 0 0 none 0 0 false)
theorem six_at {v : World} {b : Nat} {t : TypeId} {c0 c1 c2 c3 c4 c5 : Value} (h : Bk v b #[c0, c1, c2, c3, c4, c5] t) (x0 x1 x2 x3 x4 x5 : Value) :
  Bk ((((((v.setCell ⟨b, 0, none⟩ x0).setCell ⟨b, 1, none⟩ x1).setCell ⟨b, 2, none⟩ x2).setCell ⟨b, 3, none⟩ x3).setCell ⟨b, 4, none⟩ x4).setCell ⟨b, 5, none⟩ x5) b #[x0, x1, x2, x3, x4, x5] t := by
 simpa using (((((h.set 0 x0).set 1 x1).set 2 x2).set 3 x3).set 4 x4).set 5 x5
theorem below14 {w v : World} {B b : Nat} (h : Below B w v) (hb : B ≤ b) (x0 x1 x2 x3 x4 x5 : Value) : Below B w ((((((v.setCell ⟨b, 0, none⟩ x0).setCell ⟨b, 1, none⟩ x1).setCell ⟨b, 2, none⟩ x2).setCell ⟨b, 3, none⟩ x3).setCell ⟨b, 4, none⟩ x4).setCell ⟨b, 5, none⟩ x5) :=
 (((((h.setCell hb _).setCell hb _).setCell hb _).setCell hb _).setCell hb _).setCell hb _
theorem room_ways (n : Int) : (n < 1 ∧ (((min (max n 1) 64).toNat : Nat) : Int) = 1) ∨ (1 ≤ n ∧ 64 < n ∧ (((min (max n 1) 64).toNat : Nat) : Int) = 64) ∨ (1 ≤ n ∧ n ≤ 64 ∧ (((min (max n 1) 64).toNat : Nat) : Int) = n) := by omega
structure Bx2 (w v : World) (b : Nat) (cs ds : Array Value) (t : TypeId) : Prop where
 p : Bk v b cs t
 r : Bk v (b + 1) ds t
 bl : Below b w v
 hb : w.heap.size = b
theorem Bx2.start (w : World) (cs ds : Array Value) (t : TypeId) : Bx2 w ((w.alloc (.cells cs t)).alloc (.cells ds t)) w.heap.size cs ds t := by
 have h := Bk.new (w.alloc (.cells cs t)) ds t
 rw [show (w.alloc (.cells cs t)).heap.size = w.heap.size + 1 by simp] at h
 exact ⟨(Bk.new w cs t).alloc _, h, ((Below.refl _ _).alloc (Nat.le_refl _) _).alloc (by simp) _, rfl⟩
theorem Bx2.next {w v v' : World} {b : Nat} {cs ds : Array Value} {t : TypeId} (h : Bx2 w v b cs ds t) (hb : Below v.heap.size v v') : Bx2 w v' b cs ds t :=
 ⟨h.p.next hb, h.r.next hb, h.bl.trans (hb.mono (Nat.le_of_lt (h.p.lt))), h.hb⟩
theorem Bx2.set {w v : World} {b : Nat} {cs ds : Array Value} {t : TypeId} (h : Bx2 w v b cs ds t) (j : Nat) (x : Value) : Bx2 w (v.setCell ⟨b, j, none⟩ x) b (cs.setIfInBounds j x) ds t :=
 ⟨h.p.set j x, h.r.far (by omega), h.bl.setCell (Nat.le_refl _) _, h.hb⟩
theorem Bx2.fin {w v : World} {b : Nat} {cs ds : Array Value} {t : TypeId} (h : Bx2 w v b cs ds t) (x0 x1 x2 x3 x4 x5 : Value) : Below w.heap.size w ((((((v.setCell ⟨b + 1, 0, none⟩ x0).setCell ⟨b + 1, 1, none⟩ x1).setCell ⟨b + 1, 2, none⟩ x2).setCell ⟨b + 1, 3, none⟩ x3).setCell ⟨b + 1, 4, none⟩ x4).setCell ⟨b + 1, 5, none⟩ x5) := by
 rw [h.hb]
 exact below14 h.bl (by omega) _ _ _ _ _ _
set_option maxRecDepth 100000 in
theorem rnew14 (n : Int) (w : World) : Calls Tryz.prog 41 #[.int .i64 n] w fun e w' => e = .returned (lav (newK n) none 0) ∧ Below w.heap.size w w' := by
 have WY := room_ways n
 unfold newK
 simp only [lav, lac]
 generalize (min (max n 1) 64).toNat = m at *
 have BK : Hid (Bk (w.alloc (.cells zlac 100)) w.heap.size zlac 100) := Bk.new _ _ _
 have B0 : Hid (Below w.heap.size w (w.alloc (.cells zlac 100))) := (Below.refl _ _).alloc (Nat.le_refl _) _
 simp only [zlac] at *
 rcases WY with ⟨a, e⟩ | ⟨a, b, e⟩ | ⟨a, b, e⟩
 all_goals
  rw [e]
  clear e
  go_enter Tryz.func41, Tryz.ntmps41
  go_upto_region 1 with fail
  generalize w.alloc (.cells (zq2 0 0 0 0 none 0 0 false) 100) = v at *
  have c0 := BK.out.cell 0
  have c1 := BK.out.cell 1
  have c2 := BK.out.cell 2
  have c3 := BK.out.cell 3
  have c4 := BK.out.cell 4
  have c5 := BK.out.cell 5
  simp only [sqg, sqh, sqt] at c0 c1 c2 c3 c4 c5
  have z0 := BK.out.free 0
  have z1 := BK.out.free 1
  have z2 := BK.out.free 2
  have z3 := BK.out.free 3
  have z4 := BK.out.free 4
  have z5 := BK.out.free 5
  have YY := fun x0 x1 x2 x3 x4 x5 => six_at BK.out x0 x1 x2 x3 x4 x5
  have Y0 := fun x0 x1 x2 x3 x4 x5 => (YY x0 x1 x2 x3 x4 x5).cell 0
  have Y1 := fun x0 x1 x2 x3 x4 x5 => (YY x0 x1 x2 x3 x4 x5).cell 1
  have Y2 := fun x0 x1 x2 x3 x4 x5 => (YY x0 x1 x2 x3 x4 x5).cell 2
  have Y3 := fun x0 x1 x2 x3 x4 x5 => (YY x0 x1 x2 x3 x4 x5).cell 3
  have Y4 := fun x0 x1 x2 x3 x4 x5 => (YY x0 x1 x2 x3 x4 x5).cell 4
  have Y5 := fun x0 x1 x2 x3 x4 x5 => (YY x0 x1 x2 x3 x4 x5).cell 5
  simp only [sqg, sqh, sqt] at Y0 Y1 Y2 Y3 Y4 Y5
  go_wp2
  refine bodyPost_ret (v := .agg (zq2 _ 0 0 0 none 0 0 false)) (by simp [results, Tryz.results41, go_sem, Y0, Y1, Y2, Y3, Y4, Y5]; try rfl) rfl ⟨rfl, below14 B0.out (Nat.le_refl _) _ _ _ _ _ _⟩
set_option maxRecDepth 100000 in
set_option maxHeartbeats 4000000 in
theorem rgive14 (K : KS) (k : Int) (a : Option Addr) (cap : Nat) (w : World) : Calls Tryz.prog 58 #[lav K a cap, .int .i64 k] w fun e w' => e = .returned (.tuple #[lav (giveK K k).1 a cap, .bool (giveK K k).2]) ∧ Below w.heap.size w w' := by
 have X0 : Hid (Bx2 w ((w.alloc (.cells (lac K a cap) 100)).alloc (.cells zlac 100)) w.heap.size (lac K a cap) zlac 100) := Bx2.start _ _ _ _
 obtain ⟨r, ws, ph, port, lane, cp⟩ := K
 unfold giveK
 by_cases h : ph = 1
 ·subst h
  simp only [if_true, lav, lac, zlac] at *
  generalize ws.length = n at *
  go_enter Tryz.func58, Tryz.ntmps58
  go_upto_region 1 with fail
  generalize (w.alloc (.cells (zq2 (r : Int) 1 port lane a n cap cp) 100)).alloc (.cells (zq2 0 0 0 0 none 0 0 false) 100) = v at *
  generalize w.heap.size = b at *
  have hb1 : b ≠ b + 1 := by omega
  have y0 := X0.out.p.cell 0
  have y1 := X0.out.p.cell 1
  have y2 := X0.out.p.cell 2
  have y3 := X0.out.p.cell 3
  have y4 := X0.out.p.cell 4
  have y5 := X0.out.p.cell 5
  simp only [sqg, sqh, sqt] at y0 y1 y2 y3 y4 y5
  have z0 := X0.out.p.free 0
  have z1 := X0.out.p.free 1
  have z2 := X0.out.p.free 2
  have z3 := X0.out.p.free 3
  have z4 := X0.out.p.free 4
  have z5 := X0.out.p.free 5
  have X1 : Hid (Bx2 w (v.setCell ⟨b, 1, none⟩ (.int .i64 2)) b (zq2 (r : Int) 2 port lane a n cap cp) (zq2 0 0 0 0 none 0 0 false) 100) := show Bx2 _ _ _ _ _ _ from by simpa using X0.out.set 1 (.int .i64 2)
  go_upto_region 4 with fail
  clear X0 y0 y1 y2 y3 y4 y5 z0 z1 z2 z3 z4 z5
  generalize v.setCell ⟨b, 1, none⟩ (.int .i64 2) = v1 at *
  have y0 := X1.out.p.cell 0
  have y1 := X1.out.p.cell 1
  have y2 := X1.out.p.cell 2
  have y3 := X1.out.p.cell 3
  have y4 := X1.out.p.cell 4
  have y5 := X1.out.p.cell 5
  simp only [sqg, sqh, sqt] at y0 y1 y2 y3 y4 y5
  have z0 := X1.out.p.free 0
  have z1 := X1.out.p.free 1
  have z2 := X1.out.p.free 2
  have z3 := X1.out.p.free 3
  have z4 := X1.out.p.free 4
  have z5 := X1.out.p.free 5
  have X2 : Hid (Bx2 w (v1.setCell ⟨b, 3, none⟩ (.int .i64 k)) b (zq2 (r : Int) 2 port k a n cap cp) (zq2 0 0 0 0 none 0 0 false) 100) := show Bx2 _ _ _ _ _ _ from by simpa using X1.out.set 3 (.int .i64 k)
  go_upto_region 5 with fail
  clear X1 y0 y1 y2 y3 y4 y5 z0 z1 z2 z3 z4 z5
  generalize v1.setCell ⟨b, 3, none⟩ (.int .i64 k) = v2 at *
  have y0 := X2.out.p.cell 0
  have y1 := X2.out.p.cell 1
  have y2 := X2.out.p.cell 2
  have y3 := X2.out.p.cell 3
  have y4 := X2.out.p.cell 4
  have y5 := X2.out.p.cell 5
  simp only [sqg, sqh, sqt] at y0 y1 y2 y3 y4 y5
  have d0 := X2.out.r.cell 0
  have d1 := X2.out.r.cell 1
  have d2 := X2.out.r.cell 2
  have d3 := X2.out.r.cell 3
  have d4 := X2.out.r.cell 4
  have d5 := X2.out.r.cell 5
  simp only [sqg, sqh, sqt] at d0 d1 d2 d3 d4 d5
  have YY := six_at X2.out.r (.int .i64 (r : Int)) (.int .i64 2) (.int .i64 port) (.int .i64 k) (.slice a n cap) (.bool cp)
  have z0 := X2.out.r.free 0
  have z1 := X2.out.r.free 1
  have z2 := X2.out.r.free 2
  have z3 := X2.out.r.free 3
  have z4 := X2.out.r.free 4
  have z5 := X2.out.r.free 5
  have Y0 := YY.cell 0
  have Y1 := YY.cell 1
  have Y2 := YY.cell 2
  have Y3 := YY.cell 3
  have Y4 := YY.cell 4
  have Y5 := YY.cell 5
  simp only [sqg, sqh, sqt] at Y0 Y1 Y2 Y3 Y4 Y5
  clear YY
  go_wp2
  refine bodyPost_ret (v := .tuple #[.agg (zq2 (r : Int) 2 port k a n cap cp), .bool true]) (by simp [results, Tryz.results58, go_sem, Y0, Y1, Y2, Y3, Y4, Y5]; try rfl) rfl ⟨rfl, X2.out.fin _ _ _ _ _ _⟩
 ·simp only [if_neg h, lav, lac, zlac] at *
  generalize ws.length = n at *
  go_enter Tryz.func58, Tryz.ntmps58
  go_upto_region 1 with fail
  generalize (w.alloc (.cells (zq2 (r : Int) ph port lane a n cap cp) 100)).alloc (.cells (zq2 0 0 0 0 none 0 0 false) 100) = v at *
  generalize w.heap.size = b at *
  have hb1 : b ≠ b + 1 := by omega
  have y0 := X0.out.p.cell 0
  have y1 := X0.out.p.cell 1
  have y2 := X0.out.p.cell 2
  have y3 := X0.out.p.cell 3
  have y4 := X0.out.p.cell 4
  have y5 := X0.out.p.cell 5
  simp only [sqg, sqh, sqt] at y0 y1 y2 y3 y4 y5
  go_upto_region 2 with fail
  have d0 := X0.out.r.cell 0
  have d1 := X0.out.r.cell 1
  have d2 := X0.out.r.cell 2
  have d3 := X0.out.r.cell 3
  have d4 := X0.out.r.cell 4
  have d5 := X0.out.r.cell 5
  simp only [sqg, sqh, sqt] at d0 d1 d2 d3 d4 d5
  have YY := six_at X0.out.r (.int .i64 (r : Int)) (.int .i64 ph) (.int .i64 port) (.int .i64 lane) (.slice a n cap) (.bool cp)
  have z0 := X0.out.r.free 0
  have z1 := X0.out.r.free 1
  have z2 := X0.out.r.free 2
  have z3 := X0.out.r.free 3
  have z4 := X0.out.r.free 4
  have z5 := X0.out.r.free 5
  have Y0 := YY.cell 0
  have Y1 := YY.cell 1
  have Y2 := YY.cell 2
  have Y3 := YY.cell 3
  have Y4 := YY.cell 4
  have Y5 := YY.cell 5
  simp only [sqg, sqh, sqt] at Y0 Y1 Y2 Y3 Y4 Y5
  clear YY
  go_wp2
  refine bodyPost_ret (v := .tuple #[.agg (zq2 (r : Int) ph port lane a n cap cp), .bool false]) (by simp [results, Tryz.results58, go_sem, Y0, Y1, Y2, Y3, Y4, Y5]; try rfl) rfl ⟨rfl, X0.out.fin _ _ _ _ _ _⟩
set_option maxRecDepth 100000 in
set_option maxHeartbeats 4000000 in
theorem rfind14 (K : KS) (hx : ∀ x ∈ K.ws, x < 18446744073709551616) (node P : Int) (a : Option Addr) (cap : Nat) (w : World) (hr : Rd w a (vw K.ws)) : Calls Tryz.prog 51 #[lav K a cap, .int .i64 node, .int .i64 P] w fun e w' => e = .returned (.tuple #[lav (findK K node P).1 a cap, .bool (findK K node P).2]) ∧ Below w.heap.size w w' := by
 have X0 : Hid (Bx2 w ((w.alloc (.cells (lac K a cap) 100)).alloc (.cells zlac 100)) w.heap.size (lac K a cap) zlac 100) := Bx2.start _ _ _ _
 obtain ⟨r, ws, ph, port, lane, cp⟩ := K
 by_cases hp : ph = 0
 case neg =>
  have e : findK ⟨r, ws, ph, port, lane, cp⟩ node P = (⟨r, ws, ph, port, lane, cp⟩, false) := by
   cases ws with
   | nil => rfl
   | cons x t => rw [findK_at rfl, if_neg (fun h => hp h.1)]
  rw [e]
  clear e hr hx
  simp only [lav, lac, zlac] at *
  generalize ws.length = n at *
  go_enter Tryz.func51, Tryz.ntmps51
  go_upto_region 1 with fail
  generalize (w.alloc (.cells (zq2 (r : Int) ph port lane a n cap cp) 100)).alloc (.cells (zq2 0 0 0 0 none 0 0 false) 100) = v at *
  generalize w.heap.size = b at *
  have hb1 : b ≠ b + 1 := by omega
  have y0 := X0.out.p.cell 0
  have y1 := X0.out.p.cell 1
  have y2 := X0.out.p.cell 2
  have y3 := X0.out.p.cell 3
  have y4 := X0.out.p.cell 4
  have y5 := X0.out.p.cell 5
  simp only [sqg, sqh, sqt] at y0 y1 y2 y3 y4 y5
  go_upto_region 2 with fail
  have d0 := X0.out.r.cell 0
  have d1 := X0.out.r.cell 1
  have d2 := X0.out.r.cell 2
  have d3 := X0.out.r.cell 3
  have d4 := X0.out.r.cell 4
  have d5 := X0.out.r.cell 5
  simp only [sqg, sqh, sqt] at d0 d1 d2 d3 d4 d5
  have YY := six_at X0.out.r (.int .i64 (r : Int)) (.int .i64 ph) (.int .i64 port) (.int .i64 lane) (.slice a n cap) (.bool cp)
  have z0 := X0.out.r.free 0
  have z1 := X0.out.r.free 1
  have z2 := X0.out.r.free 2
  have z3 := X0.out.r.free 3
  have z4 := X0.out.r.free 4
  have z5 := X0.out.r.free 5
  have Y0 := YY.cell 0
  have Y1 := YY.cell 1
  have Y2 := YY.cell 2
  have Y3 := YY.cell 3
  have Y4 := YY.cell 4
  have Y5 := YY.cell 5
  simp only [sqg, sqh, sqt] at Y0 Y1 Y2 Y3 Y4 Y5
  clear YY
  go_wp2
  refine bodyPost_ret (v := .tuple #[.agg (zq2 (r : Int) ph port lane a n cap cp), .bool false]) (by simp [results, Tryz.results51, go_sem, Y0, Y1, Y2, Y3, Y4, Y5]; try rfl) rfl ⟨rfl, X0.out.fin _ _ _ _ _ _⟩
 subst hp
 cases ws with
 | nil =>
  rw [show findK ⟨r, [], 0, port, lane, cp⟩ node P = (⟨r, [], 0, port, lane, cp⟩, false) from rfl]
  clear hr hx
  simp only [lav, lac, zlac, List.length_nil] at *
  go_enter Tryz.func51, Tryz.ntmps51
  go_upto_region 1 with fail
  generalize (w.alloc (.cells (zq2 (r : Int) 0 port lane a 0 cap cp) 100)).alloc (.cells (zq2 0 0 0 0 none 0 0 false) 100) = v at *
  generalize w.heap.size = b at *
  have hb1 : b ≠ b + 1 := by omega
  have y0 := X0.out.p.cell 0
  have y1 := X0.out.p.cell 1
  have y2 := X0.out.p.cell 2
  have y3 := X0.out.p.cell 3
  have y4 := X0.out.p.cell 4
  have y5 := X0.out.p.cell 5
  simp only [sqg, sqh, sqt] at y0 y1 y2 y3 y4 y5
  go_upto_region 2 with fail
  have d0 := X0.out.r.cell 0
  have d1 := X0.out.r.cell 1
  have d2 := X0.out.r.cell 2
  have d3 := X0.out.r.cell 3
  have d4 := X0.out.r.cell 4
  have d5 := X0.out.r.cell 5
  simp only [sqg, sqh, sqt] at d0 d1 d2 d3 d4 d5
  have YY := six_at X0.out.r (.int .i64 (r : Int)) (.int .i64 0) (.int .i64 port) (.int .i64 lane) (.slice a 0 cap) (.bool cp)
  have z0 := X0.out.r.free 0
  have z1 := X0.out.r.free 1
  have z2 := X0.out.r.free 2
  have z3 := X0.out.r.free 3
  have z4 := X0.out.r.free 4
  have z5 := X0.out.r.free 5
  have Y0 := YY.cell 0
  have Y1 := YY.cell 1
  have Y2 := YY.cell 2
  have Y3 := YY.cell 3
  have Y4 := YY.cell 4
  have Y5 := YY.cell 5
  simp only [sqg, sqh, sqt] at Y0 Y1 Y2 Y3 Y4 Y5
  clear YY
  go_wp2
  refine bodyPost_ret (v := .tuple #[.agg (zq2 (r : Int) 0 port lane a 0 cap cp), .bool false]) (by simp [results, Tryz.results51, go_sem, Y0, Y1, Y2, Y3, Y4, Y5]; try rfl) rfl ⟨rfl, X0.out.fin _ _ _ _ _ _⟩
 | cons x t =>
  have RC := fun v => rread_any x (hx x (by simp)) v
  rw [findK_at rfl]
  obtain ⟨RR, hRR⟩ : ∃ RR, readR x = RR := ⟨_, rfl⟩
  have hH : hdK x = (decide (RR.2 = 0) && decide (RR.1.k = 1)) := by unfold hdK; rw [hRR]
  rw [hRR] at RC
  rw [hH, hRR]
  obtain ⟨⟨fk, fs, fd, fq, fl, fm, fcc, fx⟩, er⟩ := RR
  clear hRR hH hx
  have HR : Hid (Rd ((w.alloc (.cells (lac ⟨r, x :: t, 0, port, lane, cp⟩ a cap) 100)).alloc (.cells zlac 100)) a (vw (x :: t))) := (hr.alloc _).alloc _
  clear hr
  have hn : 0 < (x :: t).length := by simp
  have HV : Hid ((vw (x :: t))[0]? = some (.int .u64 (x : Int))) := show _ from rfl
  have HR2 : Hid (∃ n, (x :: t).length = n ∧ 0 < n) := ⟨_, rfl, hn⟩
  simp only [flv, flc] at RC
  generalize hL : vw (x :: t) = L at HR HV
  clear hL
  by_cases c0 : er = 0
  case neg =>
   rw [if_neg (fun h => c0 (by have := h.2; simp at this; exact this.1))]
   simp only [lav, lac, zlac] at *
   generalize hn9 : (x :: t).length = n at *
   clear hn9 HR2
   have e0 : ¬ (n : Int) = 0 := by omega
   have e1 : (0 : Int) < (n : Int) := by omega
   go_enter Tryz.func51, Tryz.ntmps51
   go_upto_region 1 with fail
   generalize (w.alloc (.cells (zq2 (r : Int) 0 port lane a n cap cp) 100)).alloc (.cells (zq2 0 0 0 0 none 0 0 false) 100) = v at *
   generalize w.heap.size = b at *
   have hb1 : b ≠ b + 1 := by omega
   have y0 := X0.out.p.cell 0
   have y1 := X0.out.p.cell 1
   have y2 := X0.out.p.cell 2
   have y3 := X0.out.p.cell 3
   have y4 := X0.out.p.cell 4
   have y5 := X0.out.p.cell 5
   simp only [sqg, sqh, sqt] at y0 y1 y2 y3 y4 y5
   obtain ⟨g, o, rfl, hg, cx⟩ := HR.out 0 _ HV.out
   simp only [Nat.add_zero] at cx
   go_upto_region 3 with fail
   go_upto_region 4 with (go_at_call 48; (with_reducible refine (RC _).mono ?_); rintro e w1 ⟨rfl, h1⟩)
   have F0 : Hid (Bk (w1.alloc (.cells (zq3 fk fs fd fq fl fm fcc fx) 112)) w1.heap.size (zq3 fk fs fd fq fl fm fcc fx) 112) := Bk.new _ _ _
   have XA : Hid (Bx2 w (w1.alloc (.cells (zq3 fk fs fd fq fl fm fcc fx) 112)) b _ _ _) := (X0.out.next h1).next ((Below.refl _ _).alloc (Nat.le_refl _) _)
   clear X0 HR HV RC h1 cx hg y0 y1 y2 y3 y4 y5
   generalize hq : w1.heap.size = q at *
   clear hq
   generalize w1.alloc (.cells (zq3 fk fs fd fq fl fm fcc fx) 112) = u at *
   have f0 := F0.out.cell 0
   have f1 := F0.out.cell 1
   have f2 := F0.out.cell 2
   have f3 := F0.out.cell 3
   have f4 := F0.out.cell 4
   have f5 := F0.out.cell 5
   have f6 := F0.out.cell 6
   have f7 := F0.out.cell 7
   simp only [sqg, sqh, sqt] at f0 f1 f2 f3 f4 f5 f6 f7
   have y0 := XA.out.p.cell 0
   have y1 := XA.out.p.cell 1
   have y2 := XA.out.p.cell 2
   have y3 := XA.out.p.cell 3
   have y4 := XA.out.p.cell 4
   have y5 := XA.out.p.cell 5
   simp only [sqg, sqh, sqt] at y0 y1 y2 y3 y4 y5
   go_upto_region 5 with fail
   have d0 := XA.out.r.cell 0
   have d1 := XA.out.r.cell 1
   have d2 := XA.out.r.cell 2
   have d3 := XA.out.r.cell 3
   have d4 := XA.out.r.cell 4
   have d5 := XA.out.r.cell 5
   simp only [sqg, sqh, sqt] at d0 d1 d2 d3 d4 d5
   have YY := six_at XA.out.r (.int .i64 (r : Int)) (.int .i64 0) (.int .i64 port) (.int .i64 lane) (.slice (some ⟨g, o, none⟩) n cap) (.bool cp)
   have z0 := XA.out.r.free 0
   have z1 := XA.out.r.free 1
   have z2 := XA.out.r.free 2
   have z3 := XA.out.r.free 3
   have z4 := XA.out.r.free 4
   have z5 := XA.out.r.free 5
   have Y0 := YY.cell 0
   have Y1 := YY.cell 1
   have Y2 := YY.cell 2
   have Y3 := YY.cell 3
   have Y4 := YY.cell 4
   have Y5 := YY.cell 5
   simp only [sqg, sqh, sqt] at Y0 Y1 Y2 Y3 Y4 Y5
   clear YY
   go_wp2
   refine bodyPost_ret (v := .tuple #[.agg (zq2 (r : Int) 0 port lane (some ⟨g, o, none⟩) n cap cp), .bool false]) (by simp [results, Tryz.results51, go_sem, Y0, Y1, Y2, Y3, Y4, Y5]; try rfl) rfl ⟨rfl, XA.out.fin _ _ _ _ _ _⟩
  subst c0
  by_cases c1 : fk = 1
  case neg =>
   rw [if_neg (fun h => c1 (by have := h.2; simp at this; exact this))]
   simp only [lav, lac, zlac] at *
   generalize hn9 : (x :: t).length = n at *
   clear hn9 HR2
   have e0 : ¬ (n : Int) = 0 := by omega
   have e1 : (0 : Int) < (n : Int) := by omega
   go_enter Tryz.func51, Tryz.ntmps51
   go_upto_region 1 with fail
   generalize (w.alloc (.cells (zq2 (r : Int) 0 port lane a n cap cp) 100)).alloc (.cells (zq2 0 0 0 0 none 0 0 false) 100) = v at *
   generalize w.heap.size = b at *
   have hb1 : b ≠ b + 1 := by omega
   have y0 := X0.out.p.cell 0
   have y1 := X0.out.p.cell 1
   have y2 := X0.out.p.cell 2
   have y3 := X0.out.p.cell 3
   have y4 := X0.out.p.cell 4
   have y5 := X0.out.p.cell 5
   simp only [sqg, sqh, sqt] at y0 y1 y2 y3 y4 y5
   obtain ⟨g, o, rfl, hg, cx⟩ := HR.out 0 _ HV.out
   simp only [Nat.add_zero] at cx
   go_upto_region 3 with fail
   go_upto_region 4 with (go_at_call 48; (with_reducible refine (RC _).mono ?_); rintro e w1 ⟨rfl, h1⟩)
   have F0 : Hid (Bk (w1.alloc (.cells (zq3 fk fs fd fq fl fm fcc fx) 112)) w1.heap.size (zq3 fk fs fd fq fl fm fcc fx) 112) := Bk.new _ _ _
   have XA : Hid (Bx2 w (w1.alloc (.cells (zq3 fk fs fd fq fl fm fcc fx) 112)) b _ _ _) := (X0.out.next h1).next ((Below.refl _ _).alloc (Nat.le_refl _) _)
   clear X0 HR HV RC h1 cx hg y0 y1 y2 y3 y4 y5
   generalize hq : w1.heap.size = q at *
   clear hq
   generalize w1.alloc (.cells (zq3 fk fs fd fq fl fm fcc fx) 112) = u at *
   have f0 := F0.out.cell 0
   have f1 := F0.out.cell 1
   have f2 := F0.out.cell 2
   have f3 := F0.out.cell 3
   have f4 := F0.out.cell 4
   have f5 := F0.out.cell 5
   have f6 := F0.out.cell 6
   have f7 := F0.out.cell 7
   simp only [sqg, sqh, sqt] at f0 f1 f2 f3 f4 f5 f6 f7
   have y0 := XA.out.p.cell 0
   have y1 := XA.out.p.cell 1
   have y2 := XA.out.p.cell 2
   have y3 := XA.out.p.cell 3
   have y4 := XA.out.p.cell 4
   have y5 := XA.out.p.cell 5
   simp only [sqg, sqh, sqt] at y0 y1 y2 y3 y4 y5
   go_upto_region 5 with fail
   have d0 := XA.out.r.cell 0
   have d1 := XA.out.r.cell 1
   have d2 := XA.out.r.cell 2
   have d3 := XA.out.r.cell 3
   have d4 := XA.out.r.cell 4
   have d5 := XA.out.r.cell 5
   simp only [sqg, sqh, sqt] at d0 d1 d2 d3 d4 d5
   have YY := six_at XA.out.r (.int .i64 (r : Int)) (.int .i64 0) (.int .i64 port) (.int .i64 lane) (.slice (some ⟨g, o, none⟩) n cap) (.bool cp)
   have z0 := XA.out.r.free 0
   have z1 := XA.out.r.free 1
   have z2 := XA.out.r.free 2
   have z3 := XA.out.r.free 3
   have z4 := XA.out.r.free 4
   have z5 := XA.out.r.free 5
   have Y0 := YY.cell 0
   have Y1 := YY.cell 1
   have Y2 := YY.cell 2
   have Y3 := YY.cell 3
   have Y4 := YY.cell 4
   have Y5 := YY.cell 5
   simp only [sqg, sqh, sqt] at Y0 Y1 Y2 Y3 Y4 Y5
   clear YY
   go_wp2
   refine bodyPost_ret (v := .tuple #[.agg (zq2 (r : Int) 0 port lane (some ⟨g, o, none⟩) n cap cp), .bool false]) (by simp [results, Tryz.results51, go_sem, Y0, Y1, Y2, Y3, Y4, Y5]; try rfl) rfl ⟨rfl, XA.out.fin _ _ _ _ _ _⟩
  subst c1
  rw [if_pos ⟨rfl, rfl⟩]
  by_cases c2 : fd = node
  ·subst c2
   rw [if_pos rfl]
   simp only [lav, lac, zlac] at *
   generalize hn9 : (x :: t).length = n at *
   clear hn9 HR2
   have e0 : ¬ (n : Int) = 0 := by omega
   have e1 : (0 : Int) < (n : Int) := by omega
   go_enter Tryz.func51, Tryz.ntmps51
   go_upto_region 1 with fail
   generalize (w.alloc (.cells (zq2 (r : Int) 0 port lane a n cap cp) 100)).alloc (.cells (zq2 0 0 0 0 none 0 0 false) 100) = v at *
   generalize w.heap.size = b at *
   have hb1 : b ≠ b + 1 := by omega
   have y0 := X0.out.p.cell 0
   have y1 := X0.out.p.cell 1
   have y2 := X0.out.p.cell 2
   have y3 := X0.out.p.cell 3
   have y4 := X0.out.p.cell 4
   have y5 := X0.out.p.cell 5
   simp only [sqg, sqh, sqt] at y0 y1 y2 y3 y4 y5
   obtain ⟨g, o, rfl, hg, cx⟩ := HR.out 0 _ HV.out
   simp only [Nat.add_zero] at cx
   go_upto_region 3 with fail
   go_upto_region 4 with (go_at_call 48; (with_reducible refine (RC _).mono ?_); rintro e w1 ⟨rfl, h1⟩)
   have F0 : Hid (Bk (w1.alloc (.cells (zq3 1 fs fd fq fl fm fcc fx) 112)) w1.heap.size (zq3 1 fs fd fq fl fm fcc fx) 112) := Bk.new _ _ _
   have XA : Hid (Bx2 w (w1.alloc (.cells (zq3 1 fs fd fq fl fm fcc fx) 112)) b _ _ _) := (X0.out.next h1).next ((Below.refl _ _).alloc (Nat.le_refl _) _)
   clear X0 HR HV RC h1 cx hg y0 y1 y2 y3 y4 y5
   generalize hq : w1.heap.size = q at *
   clear hq
   generalize w1.alloc (.cells (zq3 1 fs fd fq fl fm fcc fx) 112) = u at *
   have f0 := F0.out.cell 0
   have f1 := F0.out.cell 1
   have f2 := F0.out.cell 2
   have f3 := F0.out.cell 3
   have f4 := F0.out.cell 4
   have f5 := F0.out.cell 5
   have f6 := F0.out.cell 6
   have f7 := F0.out.cell 7
   simp only [sqg, sqh, sqt] at f0 f1 f2 f3 f4 f5 f6 f7
   go_upto_region 6 with fail
   go_upto_region 7 with fail
   have y0 := XA.out.p.cell 0
   have y1 := XA.out.p.cell 1
   have y2 := XA.out.p.cell 2
   have y3 := XA.out.p.cell 3
   have y4 := XA.out.p.cell 4
   have y5 := XA.out.p.cell 5
   simp only [sqg, sqh, sqt] at y0 y1 y2 y3 y4 y5
   have z0 := XA.out.p.free 0
   have z1 := XA.out.p.free 1
   have z2 := XA.out.p.free 2
   have z3 := XA.out.p.free 3
   have z4 := XA.out.p.free 4
   have z5 := XA.out.p.free 5
   have X1 : Hid (Bx2 w (u.setCell ⟨b, 1, none⟩ (.int .i64 2)) b (zq2 (r : Int) 2 port lane (some ⟨g, o, none⟩) n cap cp) (zq2 0 0 0 0 none 0 0 false) 100) := show Bx2 _ _ _ _ _ _ from by simpa using XA.out.set 1 (.int .i64 2)
   go_upto_region 8 with fail
   clear XA y0 y1 y2 y3 y4 y5 z0 z1 z2 z3 z4 z5
   generalize u.setCell ⟨b, 1, none⟩ (.int .i64 2) = v1 at *
   have y0 := X1.out.p.cell 0
   have y1 := X1.out.p.cell 1
   have y2 := X1.out.p.cell 2
   have y3 := X1.out.p.cell 3
   have y4 := X1.out.p.cell 4
   have y5 := X1.out.p.cell 5
   simp only [sqg, sqh, sqt] at y0 y1 y2 y3 y4 y5
   have z0 := X1.out.p.free 0
   have z1 := X1.out.p.free 1
   have z2 := X1.out.p.free 2
   have z3 := X1.out.p.free 3
   have z4 := X1.out.p.free 4
   have z5 := X1.out.p.free 5
   have X2 : Hid (Bx2 w (v1.setCell ⟨b, 2, none⟩ (.int .i64 0)) b (zq2 (r : Int) 2 0 lane (some ⟨g, o, none⟩) n cap cp) (zq2 0 0 0 0 none 0 0 false) 100) := show Bx2 _ _ _ _ _ _ from by simpa using X1.out.set 2 (.int .i64 0)
   go_upto_region 9 with fail
   clear X1 y0 y1 y2 y3 y4 y5 z0 z1 z2 z3 z4 z5
   generalize v1.setCell ⟨b, 2, none⟩ (.int .i64 0) = v2 at *
   have y0 := X2.out.p.cell 0
   have y1 := X2.out.p.cell 1
   have y2 := X2.out.p.cell 2
   have y3 := X2.out.p.cell 3
   have y4 := X2.out.p.cell 4
   have y5 := X2.out.p.cell 5
   simp only [sqg, sqh, sqt] at y0 y1 y2 y3 y4 y5
   have z0 := X2.out.p.free 0
   have z1 := X2.out.p.free 1
   have z2 := X2.out.p.free 2
   have z3 := X2.out.p.free 3
   have z4 := X2.out.p.free 4
   have z5 := X2.out.p.free 5
   have X3 : Hid (Bx2 w (v2.setCell ⟨b, 3, none⟩ (.int .i64 0)) b (zq2 (r : Int) 2 0 0 (some ⟨g, o, none⟩) n cap cp) (zq2 0 0 0 0 none 0 0 false) 100) := show Bx2 _ _ _ _ _ _ from by simpa using X2.out.set 3 (.int .i64 0)
   go_upto_region 10 with fail
   clear X2 y0 y1 y2 y3 y4 y5 z0 z1 z2 z3 z4 z5
   generalize v2.setCell ⟨b, 3, none⟩ (.int .i64 0) = v3 at *
   have y0 := X3.out.p.cell 0
   have y1 := X3.out.p.cell 1
   have y2 := X3.out.p.cell 2
   have y3 := X3.out.p.cell 3
   have y4 := X3.out.p.cell 4
   have y5 := X3.out.p.cell 5
   simp only [sqg, sqh, sqt] at y0 y1 y2 y3 y4 y5
   have d0 := X3.out.r.cell 0
   have d1 := X3.out.r.cell 1
   have d2 := X3.out.r.cell 2
   have d3 := X3.out.r.cell 3
   have d4 := X3.out.r.cell 4
   have d5 := X3.out.r.cell 5
   simp only [sqg, sqh, sqt] at d0 d1 d2 d3 d4 d5
   have YY := six_at X3.out.r (.int .i64 (r : Int)) (.int .i64 2) (.int .i64 0) (.int .i64 0) (.slice (some ⟨g, o, none⟩) n cap) (.bool cp)
   have z0 := X3.out.r.free 0
   have z1 := X3.out.r.free 1
   have z2 := X3.out.r.free 2
   have z3 := X3.out.r.free 3
   have z4 := X3.out.r.free 4
   have z5 := X3.out.r.free 5
   have Y0 := YY.cell 0
   have Y1 := YY.cell 1
   have Y2 := YY.cell 2
   have Y3 := YY.cell 3
   have Y4 := YY.cell 4
   have Y5 := YY.cell 5
   simp only [sqg, sqh, sqt] at Y0 Y1 Y2 Y3 Y4 Y5
   clear YY
   go_wp2
   refine bodyPost_ret (v := .tuple #[.agg (zq2 (r : Int) 2 0 0 (some ⟨g, o, none⟩) n cap cp), .bool true]) (by simp [results, Tryz.results51, go_sem, Y0, Y1, Y2, Y3, Y4, Y5]; try rfl) rfl ⟨rfl, X3.out.fin _ _ _ _ _ _⟩
  rw [if_neg c2]
  by_cases c3 : P < 1
  ·rw [if_neg (by omega)]
   simp only [lav, lac, zlac] at *
   generalize hn9 : (x :: t).length = n at *
   clear hn9 HR2
   have e0 : ¬ (n : Int) = 0 := by omega
   have e1 : (0 : Int) < (n : Int) := by omega
   go_enter Tryz.func51, Tryz.ntmps51
   go_upto_region 1 with fail
   generalize (w.alloc (.cells (zq2 (r : Int) 0 port lane a n cap cp) 100)).alloc (.cells (zq2 0 0 0 0 none 0 0 false) 100) = v at *
   generalize w.heap.size = b at *
   have hb1 : b ≠ b + 1 := by omega
   have y0 := X0.out.p.cell 0
   have y1 := X0.out.p.cell 1
   have y2 := X0.out.p.cell 2
   have y3 := X0.out.p.cell 3
   have y4 := X0.out.p.cell 4
   have y5 := X0.out.p.cell 5
   simp only [sqg, sqh, sqt] at y0 y1 y2 y3 y4 y5
   obtain ⟨g, o, rfl, hg, cx⟩ := HR.out 0 _ HV.out
   simp only [Nat.add_zero] at cx
   go_upto_region 3 with fail
   go_upto_region 4 with (go_at_call 48; (with_reducible refine (RC _).mono ?_); rintro e w1 ⟨rfl, h1⟩)
   have F0 : Hid (Bk (w1.alloc (.cells (zq3 1 fs fd fq fl fm fcc fx) 112)) w1.heap.size (zq3 1 fs fd fq fl fm fcc fx) 112) := Bk.new _ _ _
   have XA : Hid (Bx2 w (w1.alloc (.cells (zq3 1 fs fd fq fl fm fcc fx) 112)) b _ _ _) := (X0.out.next h1).next ((Below.refl _ _).alloc (Nat.le_refl _) _)
   clear X0 HR HV RC h1 cx hg y0 y1 y2 y3 y4 y5
   generalize hq : w1.heap.size = q at *
   clear hq
   generalize w1.alloc (.cells (zq3 1 fs fd fq fl fm fcc fx) 112) = u at *
   have f0 := F0.out.cell 0
   have f1 := F0.out.cell 1
   have f2 := F0.out.cell 2
   have f3 := F0.out.cell 3
   have f4 := F0.out.cell 4
   have f5 := F0.out.cell 5
   have f6 := F0.out.cell 6
   have f7 := F0.out.cell 7
   simp only [sqg, sqh, sqt] at f0 f1 f2 f3 f4 f5 f6 f7
   go_upto_region 6 with fail
   go_upto_region 11 with fail
   have y0 := XA.out.p.cell 0
   have y1 := XA.out.p.cell 1
   have y2 := XA.out.p.cell 2
   have y3 := XA.out.p.cell 3
   have y4 := XA.out.p.cell 4
   have y5 := XA.out.p.cell 5
   simp only [sqg, sqh, sqt] at y0 y1 y2 y3 y4 y5
   go_upto_region 12 with fail
   have d0 := XA.out.r.cell 0
   have d1 := XA.out.r.cell 1
   have d2 := XA.out.r.cell 2
   have d3 := XA.out.r.cell 3
   have d4 := XA.out.r.cell 4
   have d5 := XA.out.r.cell 5
   simp only [sqg, sqh, sqt] at d0 d1 d2 d3 d4 d5
   have YY := six_at XA.out.r (.int .i64 (r : Int)) (.int .i64 0) (.int .i64 port) (.int .i64 lane) (.slice (some ⟨g, o, none⟩) n cap) (.bool cp)
   have z0 := XA.out.r.free 0
   have z1 := XA.out.r.free 1
   have z2 := XA.out.r.free 2
   have z3 := XA.out.r.free 3
   have z4 := XA.out.r.free 4
   have z5 := XA.out.r.free 5
   have Y0 := YY.cell 0
   have Y1 := YY.cell 1
   have Y2 := YY.cell 2
   have Y3 := YY.cell 3
   have Y4 := YY.cell 4
   have Y5 := YY.cell 5
   simp only [sqg, sqh, sqt] at Y0 Y1 Y2 Y3 Y4 Y5
   clear YY
   go_wp2
   refine bodyPost_ret (v := .tuple #[.agg (zq2 (r : Int) 0 port lane (some ⟨g, o, none⟩) n cap cp), .bool false]) (by simp [results, Tryz.results51, go_sem, Y0, Y1, Y2, Y3, Y4, Y5]; try rfl) rfl ⟨rfl, XA.out.fin _ _ _ _ _ _⟩
  by_cases c4 : 4 < P
  ·rw [if_neg (by omega)]
   simp only [lav, lac, zlac] at *
   generalize hn9 : (x :: t).length = n at *
   clear hn9 HR2
   have e0 : ¬ (n : Int) = 0 := by omega
   have e1 : (0 : Int) < (n : Int) := by omega
   go_enter Tryz.func51, Tryz.ntmps51
   go_upto_region 1 with fail
   generalize (w.alloc (.cells (zq2 (r : Int) 0 port lane a n cap cp) 100)).alloc (.cells (zq2 0 0 0 0 none 0 0 false) 100) = v at *
   generalize w.heap.size = b at *
   have hb1 : b ≠ b + 1 := by omega
   have y0 := X0.out.p.cell 0
   have y1 := X0.out.p.cell 1
   have y2 := X0.out.p.cell 2
   have y3 := X0.out.p.cell 3
   have y4 := X0.out.p.cell 4
   have y5 := X0.out.p.cell 5
   simp only [sqg, sqh, sqt] at y0 y1 y2 y3 y4 y5
   obtain ⟨g, o, rfl, hg, cx⟩ := HR.out 0 _ HV.out
   simp only [Nat.add_zero] at cx
   go_upto_region 3 with fail
   go_upto_region 4 with (go_at_call 48; (with_reducible refine (RC _).mono ?_); rintro e w1 ⟨rfl, h1⟩)
   have F0 : Hid (Bk (w1.alloc (.cells (zq3 1 fs fd fq fl fm fcc fx) 112)) w1.heap.size (zq3 1 fs fd fq fl fm fcc fx) 112) := Bk.new _ _ _
   have XA : Hid (Bx2 w (w1.alloc (.cells (zq3 1 fs fd fq fl fm fcc fx) 112)) b _ _ _) := (X0.out.next h1).next ((Below.refl _ _).alloc (Nat.le_refl _) _)
   clear X0 HR HV RC h1 cx hg y0 y1 y2 y3 y4 y5
   generalize hq : w1.heap.size = q at *
   clear hq
   generalize w1.alloc (.cells (zq3 1 fs fd fq fl fm fcc fx) 112) = u at *
   have f0 := F0.out.cell 0
   have f1 := F0.out.cell 1
   have f2 := F0.out.cell 2
   have f3 := F0.out.cell 3
   have f4 := F0.out.cell 4
   have f5 := F0.out.cell 5
   have f6 := F0.out.cell 6
   have f7 := F0.out.cell 7
   simp only [sqg, sqh, sqt] at f0 f1 f2 f3 f4 f5 f6 f7
   go_upto_region 6 with fail
   go_upto_region 11 with fail
   have y0 := XA.out.p.cell 0
   have y1 := XA.out.p.cell 1
   have y2 := XA.out.p.cell 2
   have y3 := XA.out.p.cell 3
   have y4 := XA.out.p.cell 4
   have y5 := XA.out.p.cell 5
   simp only [sqg, sqh, sqt] at y0 y1 y2 y3 y4 y5
   go_upto_region 12 with fail
   have d0 := XA.out.r.cell 0
   have d1 := XA.out.r.cell 1
   have d2 := XA.out.r.cell 2
   have d3 := XA.out.r.cell 3
   have d4 := XA.out.r.cell 4
   have d5 := XA.out.r.cell 5
   simp only [sqg, sqh, sqt] at d0 d1 d2 d3 d4 d5
   have YY := six_at XA.out.r (.int .i64 (r : Int)) (.int .i64 0) (.int .i64 port) (.int .i64 lane) (.slice (some ⟨g, o, none⟩) n cap) (.bool cp)
   have z0 := XA.out.r.free 0
   have z1 := XA.out.r.free 1
   have z2 := XA.out.r.free 2
   have z3 := XA.out.r.free 3
   have z4 := XA.out.r.free 4
   have z5 := XA.out.r.free 5
   have Y0 := YY.cell 0
   have Y1 := YY.cell 1
   have Y2 := YY.cell 2
   have Y3 := YY.cell 3
   have Y4 := YY.cell 4
   have Y5 := YY.cell 5
   simp only [sqg, sqh, sqt] at Y0 Y1 Y2 Y3 Y4 Y5
   clear YY
   go_wp2
   refine bodyPost_ret (v := .tuple #[.agg (zq2 (r : Int) 0 port lane (some ⟨g, o, none⟩) n cap cp), .bool false]) (by simp [results, Tryz.results51, go_sem, Y0, Y1, Y2, Y3, Y4, Y5]; try rfl) rfl ⟨rfl, XA.out.fin _ _ _ _ _ _⟩
  rw [if_pos (by omega)]
  simp only [lav, lac, zlac] at *
  generalize hn9 : (x :: t).length = n at *
  clear hn9 HR2
  have e0 : ¬ (n : Int) = 0 := by omega
  have e1 : (0 : Int) < (n : Int) := by omega
  go_enter Tryz.func51, Tryz.ntmps51
  go_upto_region 1 with fail
  generalize (w.alloc (.cells (zq2 (r : Int) 0 port lane a n cap cp) 100)).alloc (.cells (zq2 0 0 0 0 none 0 0 false) 100) = v at *
  generalize w.heap.size = b at *
  have hb1 : b ≠ b + 1 := by omega
  have y0 := X0.out.p.cell 0
  have y1 := X0.out.p.cell 1
  have y2 := X0.out.p.cell 2
  have y3 := X0.out.p.cell 3
  have y4 := X0.out.p.cell 4
  have y5 := X0.out.p.cell 5
  simp only [sqg, sqh, sqt] at y0 y1 y2 y3 y4 y5
  obtain ⟨g, o, rfl, hg, cx⟩ := HR.out 0 _ HV.out
  simp only [Nat.add_zero] at cx
  go_upto_region 3 with fail
  go_upto_region 4 with (go_at_call 48; (with_reducible refine (RC _).mono ?_); rintro e w1 ⟨rfl, h1⟩)
  have F0 : Hid (Bk (w1.alloc (.cells (zq3 1 fs fd fq fl fm fcc fx) 112)) w1.heap.size (zq3 1 fs fd fq fl fm fcc fx) 112) := Bk.new _ _ _
  have XA : Hid (Bx2 w (w1.alloc (.cells (zq3 1 fs fd fq fl fm fcc fx) 112)) b _ _ _) := (X0.out.next h1).next ((Below.refl _ _).alloc (Nat.le_refl _) _)
  clear X0 HR HV RC h1 cx hg y0 y1 y2 y3 y4 y5
  generalize hq : w1.heap.size = q at *
  clear hq
  generalize w1.alloc (.cells (zq3 1 fs fd fq fl fm fcc fx) 112) = u at *
  have f0 := F0.out.cell 0
  have f1 := F0.out.cell 1
  have f2 := F0.out.cell 2
  have f3 := F0.out.cell 3
  have f4 := F0.out.cell 4
  have f5 := F0.out.cell 5
  have f6 := F0.out.cell 6
  have f7 := F0.out.cell 7
  simp only [sqg, sqh, sqt] at f0 f1 f2 f3 f4 f5 f6 f7
  go_upto_region 6 with fail
  go_upto_region 11 with fail
  go_upto_region 13 with fail
  have y0 := XA.out.p.cell 0
  have y1 := XA.out.p.cell 1
  have y2 := XA.out.p.cell 2
  have y3 := XA.out.p.cell 3
  have y4 := XA.out.p.cell 4
  have y5 := XA.out.p.cell 5
  simp only [sqg, sqh, sqt] at y0 y1 y2 y3 y4 y5
  have z0 := XA.out.p.free 0
  have z1 := XA.out.p.free 1
  have z2 := XA.out.p.free 2
  have z3 := XA.out.p.free 3
  have z4 := XA.out.p.free 4
  have z5 := XA.out.p.free 5
  have X1 : Hid (Bx2 w (u.setCell ⟨b, 1, none⟩ (.int .i64 1)) b (zq2 (r : Int) 1 port lane (some ⟨g, o, none⟩) n cap cp) (zq2 0 0 0 0 none 0 0 false) 100) := show Bx2 _ _ _ _ _ _ from by simpa using XA.out.set 1 (.int .i64 1)
  go_upto_region 14 with fail
  clear XA y0 y1 y2 y3 y4 y5 z0 z1 z2 z3 z4 z5
  generalize u.setCell ⟨b, 1, none⟩ (.int .i64 1) = v1 at *
  have y0 := X1.out.p.cell 0
  have y1 := X1.out.p.cell 1
  have y2 := X1.out.p.cell 2
  have y3 := X1.out.p.cell 3
  have y4 := X1.out.p.cell 4
  have y5 := X1.out.p.cell 5
  simp only [sqg, sqh, sqt] at y0 y1 y2 y3 y4 y5
  have z0 := X1.out.p.free 0
  have z1 := X1.out.p.free 1
  have z2 := X1.out.p.free 2
  have z3 := X1.out.p.free 3
  have z4 := X1.out.p.free 4
  have z5 := X1.out.p.free 5
  have X2 : Hid (Bx2 w (v1.setCell ⟨b, 2, none⟩ (.int .i64 P)) b (zq2 (r : Int) 1 P lane (some ⟨g, o, none⟩) n cap cp) (zq2 0 0 0 0 none 0 0 false) 100) := show Bx2 _ _ _ _ _ _ from by simpa using X1.out.set 2 (.int .i64 P)
  go_upto_region 15 with fail
  clear X1 y0 y1 y2 y3 y4 y5 z0 z1 z2 z3 z4 z5
  generalize v1.setCell ⟨b, 2, none⟩ (.int .i64 P) = v2 at *
  have y0 := X2.out.p.cell 0
  have y1 := X2.out.p.cell 1
  have y2 := X2.out.p.cell 2
  have y3 := X2.out.p.cell 3
  have y4 := X2.out.p.cell 4
  have y5 := X2.out.p.cell 5
  simp only [sqg, sqh, sqt] at y0 y1 y2 y3 y4 y5
  have d0 := X2.out.r.cell 0
  have d1 := X2.out.r.cell 1
  have d2 := X2.out.r.cell 2
  have d3 := X2.out.r.cell 3
  have d4 := X2.out.r.cell 4
  have d5 := X2.out.r.cell 5
  simp only [sqg, sqh, sqt] at d0 d1 d2 d3 d4 d5
  have YY := six_at X2.out.r (.int .i64 (r : Int)) (.int .i64 1) (.int .i64 P) (.int .i64 lane) (.slice (some ⟨g, o, none⟩) n cap) (.bool cp)
  have z0 := X2.out.r.free 0
  have z1 := X2.out.r.free 1
  have z2 := X2.out.r.free 2
  have z3 := X2.out.r.free 3
  have z4 := X2.out.r.free 4
  have z5 := X2.out.r.free 5
  have Y0 := YY.cell 0
  have Y1 := YY.cell 1
  have Y2 := YY.cell 2
  have Y3 := YY.cell 3
  have Y4 := YY.cell 4
  have Y5 := YY.cell 5
  simp only [sqg, sqh, sqt] at Y0 Y1 Y2 Y3 Y4 Y5
  clear YY
  go_wp2
  refine bodyPost_ret (v := .tuple #[.agg (zq2 (r : Int) 1 P lane (some ⟨g, o, none⟩) n cap cp), .bool true]) (by simp [results, Tryz.results51, go_sem, Y0, Y1, Y2, Y3, Y4, Y5]; try rfl) rfl ⟨rfl, X2.out.fin _ _ _ _ _ _⟩
end Go.Proofs.YtmmegmonmilkcaaGreatDoor
