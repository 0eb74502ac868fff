/-
  The walk of RouterThrough. (Written by gen_rthr.py.)
-/
import Derived.Test.YtmmegmonmilkcaaGreatDoorRtSet
import Derived.Test.YtmmegmonmilkcaaGreatDoorRtLives
import Derived.Test.YtmmegmonmilkcaaGreatDoorRtOp
import Derived.Test.YtmmegmonmilkcaaGreatDoorGrid
namespace Go.Proofs.YtmmegmonmilkcaaGreatDoor
open Go.RowKit

set_option maxRecDepth 100000 in
set_option maxHeartbeats 16000000 in
theorem through_law (c0 : G.Cf) (t0 t1 t2 t3 s : Int) (cc : Bool) (a : Option Addr) (cap : Nat) (x : ByteArray) (hs : List (Int × Int)) (w : World) (hm : hs.length ≤ maxLen) (hx : x.size ≤ maxLen) (hr : Rd w a (pc hs)) (h1 : -9223372036854775808 ≤ t2) (h2 : t2 ≤ 9223372036854775807) (hT : G.Tabs w) (hS : G.Steps w) :
    Calls Tryz.prog 5 #[G.cfv c0, .agg #[.int .i64 t0, .int .i64 t1, .int .i64 t2, .int .i64 t3], pcv s cc (.slice a hs.length cap) x] w fun e w' => e = .returned (.bool true) ∧ Below w.heap.size w w' := by
  have SC := fun v => G.small_form c0 v
  have NC := fun (c : G.Cf) (h : G.chk c = 0) (m : Int) v => G.node_any c h m v
  have GC : Hid (∀ v, Rd v a (pc hs) → Calls Tryz.prog 29 #[.agg #[.int .i64 s, .bool false, .slice a hs.length cap, .string x]] v (PcN v ⟨md s 4096, false, gH false hs, gx x⟩)) := show _ from fun v h => good_new s false a cap x hs v hm hx h
  have F := fine ⟨s, false, hs, x⟩
  have HR : Hid (Rd w a (pc hs)) := hr
  have HT : Hid (G.Tabs w ∧ G.Steps w) := show _ ∧ _ from ⟨hT, hS⟩
  obtain ⟨P, hP⟩ : ∃ P, gd ⟨s, false, hs, x⟩ = P := ⟨_, rfl⟩
  rw [hP] at F
  rw [show (⟨md s 4096, false, gH false hs, gx x⟩ : Pc) = P from hP] at GC
  have hPc : P.c = false := by rw [← hP]; rfl
  obtain ⟨n, hn⟩ : ∃ n, hs.length = n := ⟨_, rfl⟩
  rw [hn] at GC ⊢
  clear hP hr hT hS hm hx hn
  obtain ⟨cw, ch, cl, cd, cr, ci, cb, we, ca⟩ := c0
  simp only [G.cfv, G.cfc, pcv, pcc] at *
  have X0 : Hid (Bx3 w (((w.alloc (.cells #[.int .i64 cw, .int .i64 ch, .int .i64 cl, .int .i64 cd, .int .i64 cr, .int .i64 ci, .int .i64 cb, .bool we, .bool ca] 23)).alloc (.cells #[.int .i64 t0, .int .i64 t1, .int .i64 t2, .int .i64 t3] 73)).alloc (.cells #[.int .i64 s, .bool cc, .slice a n cap, .string x] 39)) w.heap.size #[.int .i64 cw, .int .i64 ch, .int .i64 cl, .int .i64 cd, .int .i64 cr, .int .i64 ci, .int .i64 cb, .bool we, .bool ca] #[.int .i64 t0, .int .i64 t1, .int .i64 t2, .int .i64 t3] #[.int .i64 s, .bool cc, .slice a n cap, .string x] 23 73 39) := Bx3.start w _ _ _ _ _ _
  have LV := lives_any (((w.alloc (.cells #[.int .i64 cw, .int .i64 ch, .int .i64 cl, .int .i64 cd, .int .i64 cr, .int .i64 ci, .int .i64 cb, .bool we, .bool ca] 23)).alloc (.cells #[.int .i64 t0, .int .i64 t1, .int .i64 t2, .int .i64 t3] 73)).alloc (.cells #[.int .i64 s, .bool cc, .slice a n cap, .string x] 39)) (HT.out.1.next X0.out.b) (HT.out.2.next X0.out.b)
  go_enter Tryz.func5, Tryz.ntmps5
  go_upto_region 1 with fail
  generalize (((w.alloc (.cells #[.int .i64 cw, .int .i64 ch, .int .i64 cl, .int .i64 cd, .int .i64 cr, .int .i64 ci, .int .i64 cb, .bool we, .bool ca] 23)).alloc (.cells #[.int .i64 t0, .int .i64 t1, .int .i64 t2, .int .i64 t3] 73)).alloc (.cells #[.int .i64 s, .bool cc, .slice a n cap, .string x] 39)) = v0 at *
  obtain ⟨A, hA⟩ : ∃ A, w.heap.size = A := ⟨_, rfl⟩
  have HAW : Hid (w.heap.size = A) := hA
  rw [hA] at X0 ⊢
  clear hA
  go_wp2_with fail
  go_at_call 9
  with_reducible refine LV.mono ?_
  rintro e w1 ⟨rfl, b1⟩
  have X1 : Hid (Bx3 w w1 A #[.int .i64 cw, .int .i64 ch, .int .i64 cl, .int .i64 cd, .int .i64 cr, .int .i64 ci, .int .i64 cb, .bool we, .bool ca] #[.int .i64 t0, .int .i64 t1, .int .i64 t2, .int .i64 t3] #[.int .i64 s, .bool cc, .slice a n cap, .string x] 23 73 39) := X0.out.next b1
  clear LV b1 X0
  obtain ⟨k0, k1, k2, k3, k4, k5, k6, k7, k8⟩ := nine_cells X1.out.q
  go_wp2_with fail
  go_at_call 10
  with_reducible refine (SC _).mono ?_
  rintro e w2 ⟨dw, dh, dl, dd, dr, di, db, de, da, rfl, b2, ft, hw4, hh4⟩
  have X2 : Hid (Bx3 w w2 A #[.int .i64 cw, .int .i64 ch, .int .i64 cl, .int .i64 cd, .int .i64 cr, .int .i64 ci, .int .i64 cb, .bool we, .bool ca] #[.int .i64 t0, .int .i64 t1, .int .i64 t2, .int .i64 t3] #[.int .i64 s, .bool cc, .slice a n cap, .string x] 23 73 39) := X1.out.next b2
  clear SC X1 k0 k1 k2 k3 k4 k5 k6 k7 k8 b2 hw4 hh4
  obtain ⟨k0, k1, k2, k3, k4, k5, k6, k7, k8⟩ := nine_cells X2.out.q
  obtain ⟨z0, z1, z2, z3, z4, z5, z6, z7, z8⟩ := nine_free X2.out.q
  go_upto_region 4 with fail
  have X3 : Hid (Bx3 w (((((((((w2.setCell ⟨A, 0, none⟩ (.int .i64 dw)).setCell ⟨A, 1, none⟩ (.int .i64 dh)).setCell ⟨A, 2, none⟩ (.int .i64 dl)).setCell ⟨A, 3, none⟩ (.int .i64 dd)).setCell ⟨A, 4, none⟩ (.int .i64 dr)).setCell ⟨A, 5, none⟩ (.int .i64 di)).setCell ⟨A, 6, none⟩ (.int .i64 db)).setCell ⟨A, 7, none⟩ (.bool de)).setCell ⟨A, 8, none⟩ (.bool da)) A #[.int .i64 dw, .int .i64 dh, .int .i64 dl, .int .i64 dd, .int .i64 dr, .int .i64 di, .int .i64 db, .bool de, .bool da] #[.int .i64 t0, .int .i64 t1, .int .i64 t2, .int .i64 t3] #[.int .i64 s, .bool cc, .slice a n cap, .string x] 23 73 39) := X2.out.config
  clear X2 k0 k1 k2 k3 k4 k5 k6 k7 k8 z0 z1 z2 z3 z4 z5 z6 z7 z8
  generalize (((((((((w2.setCell ⟨A, 0, none⟩ (.int .i64 dw)).setCell ⟨A, 1, none⟩ (.int .i64 dh)).setCell ⟨A, 2, none⟩ (.int .i64 dl)).setCell ⟨A, 3, none⟩ (.int .i64 dd)).setCell ⟨A, 4, none⟩ (.int .i64 dr)).setCell ⟨A, 5, none⟩ (.int .i64 di)).setCell ⟨A, 6, none⟩ (.int .i64 db)).setCell ⟨A, 7, none⟩ (.bool de)).setCell ⟨A, 8, none⟩ (.bool da)) = w3 at *
  have k3 := X3.out.q.cell 3
  have z3 := X3.out.q.free 3
  simp only [List.getElem?_toArray, List.getElem?_cons_zero, List.getElem?_cons_succ] at k3
  go_upto_region 5 with fail
  have X4 : Hid (Bx3 w (w3.setCell ⟨A, 3, none⟩ (.int .i64 64)) A #[.int .i64 dw, .int .i64 dh, .int .i64 dl, .int .i64 64, .int .i64 dr, .int .i64 di, .int .i64 db, .bool de, .bool da] #[.int .i64 t0, .int .i64 t1, .int .i64 t2, .int .i64 t3] #[.int .i64 s, .bool cc, .slice a n cap, .string x] 23 73 39) := show Bx3 _ _ _ _ _ _ _ _ _ from by
    have := X3.out.setq 3 (.int .i64 64)
    simpa using this
  clear X3 k3 z3
  generalize w3.setCell ⟨A, 3, none⟩ (.int .i64 64) = w4 at *
  have ft2 := fits_depth ft
  have hchk := G.chk_fits ft2
  have hl1 : 1 ≤ dl := ft.l1
  have hl8 : dl ≤ 8 := ft.l2
  clear ft ft2
  obtain ⟨nn, rfl⟩ : ∃ nn : Nat, dl = (nn : Int) := ⟨dl.toNat, by omega⟩
  have NCd : Hid (∀ m v, Calls Tryz.prog 11 #[.agg #[.int .i64 dw, .int .i64 dh, .int .i64 (nn : Int), .int .i64 64, .int .i64 dr, .int .i64 di, .int .i64 db, .bool de, .bool da], .int .i64 m] v fun e w' => e = .returned (.int .i64 (G.nde ⟨dw, dh, nn, 64, dr, di, db, de, da⟩ m)) ∧ Below v.heap.size v w') := show _ from fun m v => NC ⟨dw, dh, nn, 64, dr, di, db, de, da⟩ hchk m v
  have WCd : Hid (∀ m v, G.isN ⟨dw, dh, nn, 64, dr, di, db, de, da⟩ m = true → Calls Tryz.prog 12 #[.agg #[.int .i64 dw, .int .i64 dh, .int .i64 (nn : Int), .int .i64 64, .int .i64 dr, .int .i64 di, .int .i64 db, .bool de, .bool da], .int .i64 m] v fun e w' => ∃ p F, e = .returned (.pointer (some ⟨p, 0, none⟩)) ∧ Rt w' p ⟨dw, dh, nn, 64, dr, di, db, de, da⟩ (newRt nn 64 m) F ∧ (∀ g, F g → v.heap.size ≤ g) ∧ Below v.heap.size v w') := show _ from fun m v hm => by
    have := router_new ⟨dw, dh, nn, 64, dr, di, db, de, da⟩ hchk m hm v
    simpa [G.cfv, G.cfc] using this
  have hN : Hid (∀ m, G.isN ⟨dw, dh, nn, 64, dr, di, db, de, da⟩ (G.nde ⟨dw, dh, nn, 64, dr, di, db, de, da⟩ m) = true) := show _ from fun m => G.nde_in hchk m
  have hCl : Hid ((clsR ⟨dw, dh, nn, 64, dr, di, db, de, da⟩ 0).1 = 0 ∧ 1 ≤ (clsR ⟨dw, dh, nn, 64, dr, di, db, de, da⟩ 0).2) := show _ ∧ _ from cls_zero hchk
  clear NC hchk
  generalize hc2 : (⟨dw, dh, nn, 64, dr, di, db, de, da⟩ : G.Cf) = c2 at *
  clear hc2
  obtain ⟨nd, hnd⟩ : ∃ nd, G.nde c2 t0 = nd := ⟨_, rfl⟩
  have hnN := hN.out t0
  have NC0 := NCd.out t0 w4
  rw [hnd] at hnN NC0
  clear hnd
  obtain ⟨k0, k1, k2, k3, k4, k5, k6, k7, k8⟩ := nine_cells X4.out.q
  obtain ⟨j0, j1, j2, j3⟩ := four_cells X4.out.t
  go_wp2_with fail
  go_at_call 11
  with_reducible refine NC0.mono ?_
  rintro e w5 ⟨rfl, b5⟩
  have X5 : Hid (Bx3 w w5 A #[.int .i64 dw, .int .i64 dh, .int .i64 (nn : Int), .int .i64 64, .int .i64 dr, .int .i64 di, .int .i64 db, .bool de, .bool da] #[.int .i64 t0, .int .i64 t1, .int .i64 t2, .int .i64 t3] #[.int .i64 s, .bool cc, .slice a n cap, .string x] 23 73 39) := X4.out.next b5
  clear NC0 b5 X4 k0 k1 k2 k3 k4 k5 k6 k7 k8 j0 j1 j2 j3
  have p1 := X5.out.p.cell 1
  have z1 := X5.out.p.free 1
  simp only [List.getElem?_toArray, List.getElem?_cons_zero, List.getElem?_cons_succ] at p1
  go_upto_region 7 with fail
  have X6 : Hid (Bx3 w (w5.setCell ⟨A + 1 + 1, 1, none⟩ (.bool false)) A #[.int .i64 dw, .int .i64 dh, .int .i64 (nn : Int), .int .i64 64, .int .i64 dr, .int .i64 di, .int .i64 db, .bool de, .bool da] #[.int .i64 t0, .int .i64 t1, .int .i64 t2, .int .i64 t3] #[.int .i64 s, .bool false, .slice a n cap, .string x] 23 73 39) := show Bx3 _ _ _ _ _ _ _ _ _ from by
    have := X5.out.setp 1 (.bool false)
    simpa using this
  clear X5 p1 z1
  generalize w5.setCell ⟨A + 1 + 1, 1, none⟩ (.bool false) = w6 at *
  obtain ⟨p0, p1, p2, p3⟩ := four_cells X6.out.p
  have GW := GC.out w6 (HR.out.below (show Below w.heap.size w w6 by rw [HAW.out]; exact X6.out.b))
  clear GC HR

  have hlen := one_head F hPc
  have W1 : Hid (∀ v : Int, 0 ≤ v → v ≤ 4095 → Wds (setP v P).ws 1 (fun _ => v) ∧ (readR ((setP v P).ws.getD 0 0)).1.c = false ∧ (readR ((setP v P).ws.getD 0 0)).1.d = v) := show _ from fun v h0 h1 => setP_wds F hPc (v := v) h0 h1
  have F1 : Hid (∀ v : Int, 0 ≤ v → v ≤ 4095 → Fine (setP v P)) := show _ from fun v h0 h1 => setP_fine F (v := v) h0 h1
  clear F
  obtain ⟨s', c', hs', x'⟩ := P
  simp only at hPc hlen
  subst hPc
  unfold PcN at GW
  dsimp only at GW
  rw [hlen] at GW
  have HL1 : Hid (hs'.length = 1) := hlen
  clear hlen
  go_upto_region 8 with (go_at_call 29; with_reducible refine GW.mono ?_; rintro e w7 ⟨ra, rcap, rfl, hrc, rd7, b7, nw7⟩)
  obtain ⟨g, oo, hra, hg, cg, -⟩ := rd7.pair (k := 0) (by rw [HL1.out]; decide)
  subst hra
  obtain ⟨hgv, hgb⟩ := nw7 _ rfl
  rw [Nat.zero_mul, Nat.add_zero] at cg
  have ba : Below w6.heap.size w6 (w7.alloc (.cells #[.int .i64 s', .bool false, .slice (some ⟨g, oo, none⟩) 1 rcap, .string x'] 39)) := b7.alloc b7.size _
  have a7 : Below w7.heap.size w7 (w7.alloc (.cells #[.int .i64 s', .bool false, .slice (some ⟨g, oo, none⟩) 1 rcap, .string x'] 39)) := (Below.refl _ _).alloc (Nat.le_refl _) _
  have X8 : Hid (Bx3 w (w7.alloc (.cells #[.int .i64 s', .bool false, .slice (some ⟨g, oo, none⟩) 1 rcap, .string x'] 39)) A #[.int .i64 dw, .int .i64 dh, .int .i64 (nn : Int), .int .i64 64, .int .i64 dr, .int .i64 di, .int .i64 db, .bool de, .bool da] #[.int .i64 t0, .int .i64 t1, .int .i64 t2, .int .i64 t3] #[.int .i64 s, .bool false, .slice a n cap, .string x] 23 73 39) := X6.out.next ba
  have R8 : Hid (Rd (w7.alloc (.cells #[.int .i64 s', .bool false, .slice (some ⟨g, oo, none⟩) 1 rcap, .string x'] 39)) (some ⟨g, oo, none⟩) (pc hs')) := rd7.below a7
  have P8 : Hid (Bk (w7.alloc (.cells #[.int .i64 s', .bool false, .slice (some ⟨g, oo, none⟩) 1 rcap, .string x'] 39)) w7.heap.size #[.int .i64 s', .bool false, .slice (some ⟨g, oo, none⟩) 1 rcap, .string x'] 39) := Bk.new _ _ _
  have G8 : Hid (∃ cs t, Bk (w7.alloc (.cells #[.int .i64 s', .bool false, .slice (some ⟨g, oo, none⟩) 1 rcap, .string x'] 39)) g cs t) := show ∃ cs t, Bk _ _ cs t from by
    obtain ⟨cs, t, h⟩ := hgb
    exact ⟨cs, t, h.alloc _⟩
  have hgA : A + 1 + 1 < g := Nat.lt_of_lt_of_le X6.out.lt hgv
  have c8 : (w7.alloc (.cells #[.int .i64 s', .bool false, .slice (some ⟨g, oo, none⟩) 1 rcap, .string x'] 39)).cell? ⟨g, oo, none⟩ = some (.int .i64 (hs'.getD 0 (0, 0)).1) := (a7.cell (p := ⟨g, oo, none⟩) hg).trans cg
  clear X6 rd7 b7 nw7 hgb hgv ba a7 cg GW p0 p1 p2 p3
  generalize w7.alloc (.cells #[.int .i64 s', .bool false, .slice (some ⟨g, oo, none⟩) 1 rcap, .string x'] 39) = w8 at *
  generalize w7.heap.size = PB at *
  obtain ⟨y1, hy1⟩ : ∃ y, (hs'.getD 0 (0, 0)).1 = y := ⟨_, rfl⟩
  rw [hy1] at c8
  have e2 : PB < w8.heap.size := P8.out.lt
  have NC1 := NCd.out y1
  obtain ⟨d0, hd0⟩ : ∃ d, G.nde c2 y1 = d := ⟨_, rfl⟩
  have hdN := hN.out y1
  rw [hd0] at hdN NC1
  clear hd0
  have S2 := X8.out.next (Below.refl _ _).drew
  have T1 := And.intro ((P8.out.next (Below.refl _ _).drew).cell 2) (And.intro (show w8.drew.cell? ⟨g, oo, none⟩ = some (.int .i64 y1) from c8) (And.intro (show w8.drew.frozen? ⟨g, oo, none⟩ = false from by obtain ⟨cs, t, h⟩ := G8.out; exact (h.next (Below.refl _ _).drew).free oo) (nine_cells S2.q)))
  simp only [List.getElem?_toArray, List.getElem?_cons_zero, List.getElem?_cons_succ] at T1
  go_wp2_with fail
  refine wp_region_G (fun V => V.cell? ⟨PB, 2, none⟩ = some (.slice (some ⟨g, oo, none⟩) 1 rcap) ∧ V.cell? ⟨g, oo, none⟩ = some (.int .i64 y1) ∧ V.frozen? ⟨g, oo, none⟩ = false ∧ V.cell? ⟨A, 0, none⟩ = some (.int .i64 dw) ∧ V.cell? ⟨A, 1, none⟩ = some (.int .i64 dh) ∧ V.cell? ⟨A, 2, none⟩ = some (.int .i64 (nn : Int)) ∧ V.cell? ⟨A, 3, none⟩ = some (.int .i64 64) ∧ V.cell? ⟨A, 4, none⟩ = some (.int .i64 dr) ∧ V.cell? ⟨A, 5, none⟩ = some (.int .i64 di) ∧ V.cell? ⟨A, 6, none⟩ = some (.int .i64 db) ∧ V.cell? ⟨A, 7, none⟩ = some (.bool de) ∧ V.cell? ⟨A, 8, none⟩ = some (.bool da)) 11 (by kernel_rfl) ?_
  refine wpAnyG_take [11] (some 38) (i := 0) (v := ?v0) rfl rfl (by kernel_rfl) (by kernel_rfl) (by kernel_rfl) (by kernel_rfl) (fun _ _ _ h => h) (Or.inl ⟨by rfl, ?y0⟩) T1 ?r0
  case y0 => (intro V hSV; obtain ⟨d0', d1', d2', d3', d4', d5', d6', d7', d8', d9', d10', d11'⟩ := hSV; go_simp; try with_reducible rfl)
  simp only [Act.put, List.setIfInBounds_toArray, List.set_cons_zero, List.set_cons_succ]
  refine wpAnyG_take [11] (some 39) (i := 1) (v := ?v1) rfl rfl (by kernel_rfl) (by kernel_rfl) (by kernel_rfl) (by kernel_rfl) (fun _ _ _ h => h) (Or.inl ⟨by rfl, ?y1⟩) T1 ?r1
  case y1 => (intro V hSV; obtain ⟨d0', d1', d2', d3', d4', d5', d6', d7', d8', d9', d10', d11'⟩ := hSV; go_simp; try with_reducible rfl)
  simp only [Act.put, List.setIfInBounds_toArray, List.set_cons_zero, List.set_cons_succ]
  refine wpAnyG_take [11] (some 40) (i := 2) (v := ?v2) rfl rfl (by kernel_rfl) (by kernel_rfl) (by kernel_rfl) (by kernel_rfl) (fun _ _ _ h => h) (Or.inl ⟨by rfl, ?y2⟩) T1 ?r2
  case y2 => (intro V hSV; obtain ⟨d0', d1', d2', d3', d4', d5', d6', d7', d8', d9', d10', d11'⟩ := hSV; go_simp; try with_reducible rfl)
  simp only [Act.put, List.setIfInBounds_toArray, List.set_cons_zero, List.set_cons_succ]
  refine wpAnyG_take [11] (some 41) (i := 3) (v := ?v3) rfl rfl (by kernel_rfl) (by kernel_rfl) (by kernel_rfl) (by kernel_rfl) (fun _ _ _ h => h) (Or.inl ⟨by rfl, ?y3⟩) T1 ?r3
  case y3 => (intro V hSV; obtain ⟨d0', d1', d2', d3', d4', d5', d6', d7', d8', d9', d10', d11'⟩ := hSV; go_simp; try with_reducible rfl)
  simp only [Act.put, List.setIfInBounds_toArray, List.set_cons_zero, List.set_cons_succ]
  refine wpAnyG_take [11] (some 42) (i := 4) (v := ?v4) rfl rfl (by kernel_rfl) (by kernel_rfl) (by kernel_rfl) (by kernel_rfl) (fun _ _ _ h => h) (Or.inl ⟨by rfl, ?y4⟩) T1 ?r4
  case y4 => (intro V hSV; obtain ⟨d0', d1', d2', d3', d4', d5', d6', d7', d8', d9', d10', d11'⟩ := hSV; go_simp; try with_reducible rfl)
  simp only [Act.put, List.setIfInBounds_toArray, List.set_cons_zero, List.set_cons_succ]
  refine wpAnyG_take [11] (some 43) (i := 5) (v := ?v5) rfl rfl (by kernel_rfl) (by kernel_rfl) (by kernel_rfl) (by kernel_rfl) (fun _ _ _ h => h) (Or.inl ⟨by rfl, ?y5⟩) T1 ?r5
  case y5 => (intro V hSV; obtain ⟨d0', d1', d2', d3', d4', d5', d6', d7', d8', d9', d10', d11'⟩ := hSV; go_simp; try with_reducible rfl)
  simp only [Act.put, List.setIfInBounds_toArray, List.set_cons_zero, List.set_cons_succ]
  refine wpAnyG_take [11] (some 44) (i := 6) (v := ?v6) rfl rfl (by kernel_rfl) (by kernel_rfl) (by kernel_rfl) (by kernel_rfl) (fun _ _ _ h => h) (Or.inl ⟨by rfl, ?y6⟩) T1 ?r6
  case y6 => (intro V hSV; obtain ⟨d0', d1', d2', d3', d4', d5', d6', d7', d8', d9', d10', d11'⟩ := hSV; go_simp; try with_reducible rfl)
  simp only [Act.put, List.setIfInBounds_toArray, List.set_cons_zero, List.set_cons_succ]
  refine wpAnyG_take [11] (some 45) (i := 7) (v := ?v7) rfl rfl (by kernel_rfl) (by kernel_rfl) (by kernel_rfl) (by kernel_rfl) (fun _ _ _ h => h) (Or.inl ⟨by rfl, ?y7⟩) T1 ?r7
  case y7 => (intro V hSV; obtain ⟨d0', d1', d2', d3', d4', d5', d6', d7', d8', d9', d10', d11'⟩ := hSV; go_simp; try with_reducible rfl)
  simp only [Act.put, List.setIfInBounds_toArray, List.set_cons_zero, List.set_cons_succ]
  refine wpAnyG_one (i := 8) (by kernel_rfl) rfl (fun K hK => ?_)
  go_simp
  with_reducible refine (NC1 _).mono ?_
  rintro e w9 ⟨rfl, b9⟩

  have X9 := S2.next b9
  have P9 := (P8.out.next (Below.refl _ _).drew).next b9
  have c9 : w9.cell? ⟨g, oo, none⟩ = some (.int .i64 y1) := (b9.cell (p := ⟨g, oo, none⟩) (by obtain ⟨cs, t, h⟩ := G8.out; exact h.lt)).trans c8
  have f9 : w9.frozen? ⟨g, oo, none⟩ = false := by obtain ⟨cs, t, h⟩ := G8.out; exact ((h.next (Below.refl _ _).drew).next b9).free oo
  have R9 : Hid (Rd w9 (some ⟨g, oo, none⟩) (pc hs')) := (R8.out.below (Below.refl _ _).drew).below b9
  have T2 := And.intro (P9.cell 2) (And.intro c9 (And.intro f9 (nine_cells X9.q)))
  simp only [List.getElem?_toArray, List.getElem?_cons_zero, List.getElem?_cons_succ] at T2
  refine hK.out _ _ (Or.inr T2) ?_
  clear hK K
  try simp only [Act.put, List.setIfInBounds_toArray, List.set_cons_zero, List.set_cons_succ]
  refine wpAnyG_take [10, 11] (some 47) (i := 9) (v := ?v9) rfl rfl (by kernel_rfl) (by kernel_rfl) (by kernel_rfl) (by kernel_rfl) (fun _ _ _ h => h) (Or.inl ⟨by rfl, ?y9⟩) T2 ?r9
  case y9 => (intro V hSV; obtain ⟨d0', d1', d2', d3', d4', d5', d6', d7', d8', d9', d10', d11'⟩ := hSV; go_simp; try with_reducible rfl)
  simp only [Act.put, List.setIfInBounds_toArray, List.set_cons_zero, List.set_cons_succ]
  refine wpAnyG_take [11] (some 48) (i := 10) (v := ?v10) rfl rfl (by kernel_rfl) (by kernel_rfl) (by kernel_rfl) (by kernel_rfl) (fun _ _ _ h => h) (Or.inl ⟨by rfl, ?y10⟩) T2 ?r10
  case y10 => (intro V hSV; obtain ⟨d0', d1', d2', d3', d4', d5', d6', d7', d8', d9', d10', d11'⟩ := hSV; go_simp; try with_reducible rfl)
  simp only [Act.put, List.setIfInBounds_toArray, List.set_cons_zero, List.set_cons_succ]
  refine wpAnyG_one (i := 11) (by kernel_rfl) rfl (fun K hK => ?_)
  go_simp
  refine hK.out _ _ (Or.inl (by kernel_rfl)) ?_
  clear hK K
  refine wpAnyG_done (by kernel_rfl) ?_ _
  have hd1 := G.isN_lt hdN
  have FD := F1.out d0 (by omega) (by omega)
  obtain ⟨WD, hf1, hf2⟩ := W1.out d0 (by omega) (by omega)
  have XA : Hid (Bx3 w (w9.setCell ⟨g, oo, none⟩ (.int .i64 d0)) A #[.int .i64 dw, .int .i64 dh, .int .i64 (nn : Int), .int .i64 64, .int .i64 dr, .int .i64 di, .int .i64 db, .bool de, .bool da] #[.int .i64 t0, .int .i64 t1, .int .i64 t2, .int .i64 t3] #[.int .i64 s, .bool false, .slice a n cap, .string x] 23 73 39) := X9.far hgA
  have PA : Hid (Bk (w9.setCell ⟨g, oo, none⟩ (.int .i64 d0)) PB #[.int .i64 s', .bool false, .slice (some ⟨g, oo, none⟩) 1 rcap, .string x'] 39) := P9.far (by omega)
  have RA : Hid (Rd (w9.setCell ⟨g, oo, none⟩ (.int .i64 d0)) (some ⟨g, oo, none⟩) (pc (setP d0 ⟨s', false, hs', x'⟩).hs)) := R9.out.first (by rw [HL1.out]; decide) d0
  have hlP : (setP d0 ⟨s', false, hs', x'⟩).hs.length = 1 := (List.length_set ..).trans HL1.out
  have CA : Hid ((w9.setCell ⟨g, oo, none⟩ (.int .i64 d0)).cell? ⟨g, oo, none⟩ = some (.int .i64 d0) ∧ g < (w9.setCell ⟨g, oo, none⟩ (.int .i64 d0)).heap.size) := show _ ∧ _ from ⟨World.cell?_setCell_same _ _ _ c9, by
    obtain ⟨cs, t, h⟩ := G8.out
    have := ((h.next (Below.refl _ _).drew).next b9).lt
    simpa using this⟩
  clear T1 T2 S2 X9 P9 c9 f9 R9 b9 NC1 c8 X8 R8 P8 G8 F1 W1 e2 hgA
  generalize w9.setCell ⟨g, oo, none⟩ (.int .i64 d0) = wa at *
  have WC := FD.rwords (some ⟨g, oo, none⟩) rcap wa RA.out
  rw [hlP] at WC
  simp only [pcv, pcc, show (setP d0 ⟨s', false, hs', x'⟩).s = s' from rfl, show (setP d0 ⟨s', false, hs', x'⟩).c = false from rfl, show (setP d0 ⟨s', false, hs', x'⟩).x = x' from rfl] at WC
  have hPl : Hid (∀ i, i < (setP d0 ⟨s', false, hs', x'⟩).ws.length → (setP d0 ⟨s', false, hs', x'⟩).ws.getD i 0 < 18446744073709551616) := show _ from fun i hi => WD.lt _ (by rw [List.getD_eq_getElem?_getD, List.getElem?_eq_getElem hi]; exact List.getElem_mem _)
  generalize (setP d0 ⟨s', false, hs', x'⟩).ws = L at *
  clear FD RA hlP
  obtain ⟨u0, u1, u2, u3⟩ := four_cells PA.out
  go_upto_region 10 with (go_at_call 30; with_reducible refine WC.mono ?_; rintro e wb ⟨la, lcap, rfl, hlc, rdb, bb⟩)
  clear u0 u1 u2 u3 WC
  have XB : Hid (Bx3 w wb A #[.int .i64 dw, .int .i64 dh, .int .i64 (nn : Int), .int .i64 64, .int .i64 dr, .int .i64 di, .int .i64 db, .bool de, .bool da] #[.int .i64 t0, .int .i64 t1, .int .i64 t2, .int .i64 t3] #[.int .i64 s, .bool false, .slice a n cap, .string x] 23 73 39) := XA.out.next bb
  have PB' : Hid (Bk wb PB #[.int .i64 s', .bool false, .slice (some ⟨g, oo, none⟩) 1 rcap, .string x'] 39) := PA.out.next bb
  have CB : Hid (wb.cell? ⟨g, oo, none⟩ = some (.int .i64 d0) ∧ g < wb.heap.size) := show _ ∧ _ from ⟨(bb.cell (p := ⟨g, oo, none⟩) CA.out.2).trans CA.out.1, Nat.lt_of_lt_of_le CA.out.2 bb.size⟩
  have HX : Hid (∀ i (wr : World), i < L.length → Below wb.heap.size wb wr → ∃ g o, la = some ⟨g, o, none⟩ ∧ g < wr.heap.size ∧ wr.cell? ⟨g, o + i, none⟩ = some (.int .u64 ((L.getD i 0 : Nat) : Int))) := show _ from fun i wr hi hb => (rdb.below hb) i _ (vw_at hi)
  have HTb : Hid (G.Tabs wb ∧ G.Steps wb) := show _ ∧ _ from ⟨HT.out.1.next (by rw [HAW.out]; exact XB.out.b), HT.out.2.next (by rw [HAW.out]; exact XB.out.b)⟩
  clear XA PA CA bb rdb HT
  obtain ⟨pt, hpt, r1, r2⟩ : ∃ pt : Nat, pt < 5 ∧ IntKind.i64.wrap ((IntKind.u64.wrap t1).tmod 5) = (pt : Int) ∧ wrap64 ((IntKind.u64.wrap t1).tmod 5) = (pt : Int) := ⟨rst t1 5, (rst_in t1 (m := 5) (by decide) (by decide)).1, (rst_in t1 (m := 5) (by decide) (by decide)).2, rst_eq t1 (m := 5) (by decide) (by decide)⟩
  obtain ⟨o, hod, ho5, A', B', E', G', TH⟩ : ∃ o : Nat, (o = 0 ↔ d0 = nd) ∧ o < 5 ∧ ∃ A B E G, Thr (telR c2 nd) (clsR c2) nn nd pt t2 L o A B E G := by
    by_cases e : d0 = nd
    · exact ⟨0, by simp [e], by decide, thr_of WD (by omega) hpt (Or.inl ⟨e, rfl⟩) hCl.out⟩
    · obtain ⟨o, k1, k2, k3⟩ := tel_port (c := c2) (a := nd) (f := (readR (L.getD 0 0)).1) hf1 hnN (by rw [hf2]; exact hdN) (by rw [hf2]; exact e) t2
      exact ⟨o, by omega, by omega, thr_of WD (by omega) hpt (Or.inr ⟨e, k1, k2, k3⟩) hCl.out⟩
  have WR := WCd.out nd wb hnN
  rw [TH.nw] at WR
  have hlen1 : 1 < L.length := WD.len
  have hlen17 : L.length ≤ 17 := WD.small
  have TC : Hid (Thr (telR c2 nd) (clsR c2) nn nd pt t2 L o A' B' E' G') := TH
  clear WD hf1 hf2 hCl WCd NCd hN hdN hnN hd1 TH

  obtain ⟨m, hm⟩ : ∃ m, L.length = m := ⟨_, rfl⟩
  rw [hm] at hlc hlen1 hlen17 HX hPl ⊢
  have HM : Hid (L.length = m) := hm
  clear hm
  obtain ⟨j0, j1, j2, j3⟩ := four_cells XB.out.t
  obtain ⟨k0, k1, k2, k3, k4, k5, k6, k7, k8⟩ := nine_cells XB.out.q
  go_wp2_with fail
  go_at_call 12
  with_reducible refine WR.mono ?_
  rintro e wc ⟨b, F0, rfl, nc, fc, bc⟩
  have LC : Hid (RSt wb wc b c2 (A' 0) F0) := show RSt wb wc b c2 _ F0 from ⟨nc, fc, bc⟩
  clear WR nc fc bc j0 j1 j2 j3 k0 k1 k2 k3 k4 k5 k6 k7 k8 r1 r2
  go_wp2_with fail
  go_loopw [14] (fun x wr => ∃ (i : Nat) (F : Nat → Prop), i ≤ m ∧ x = .int .i64 i ∧ RSt wb wr b c2 (A' i) F) (fun x _ => m - (RowKit.intOf x).toNat)
  case atStart => exact ⟨0, F0, Nat.zero_le _, rfl, LC.out⟩
  case round =>
    obtain ⟨i, F, hi, rfl, l⟩ := hrel
    clear LC
    have LI : Hid (RSt wb wr b c2 (A' i) F) := l
    clear l
    by_cases hex : i < m
    case neg =>
      obtain rfl : i = m := by omega
      have e1 : ¬ (i : Int) < (i : Int) := by omega
      have e9 : (0 : Int) ≤ (0 : Int) := Int.le_refl 0
      have u2 := (PB'.out.below LI.out.below PB'.out.lt).cell 2
      have ug : wr.cell? ⟨g, oo, none⟩ = some (.int .i64 d0) := (LI.out.below.cell (p := ⟨g, oo, none⟩) CB.out.2).trans CB.out.1
      simp only [List.getElem?_toArray, List.getElem?_cons_zero, List.getElem?_cons_succ] at u2
      obtain ⟨hb, hhb⟩ : ∃ x : Bool, (d0 == nd) = x := ⟨_, rfl⟩
      have hbo : Hid ((decide (o ≠ 0) == hb) = false ∧ ((o : Int) == 0) = hb) := show _ ∧ _ from by
        rw [← hhb]
        by_cases e : d0 = nd
        · obtain rfl := hod.2 e
          rw [e]
          simp
        · have e0 : ¬ o = 0 := fun c => e (hod.1 c)
          have e1 : ¬ (o : Int) = 0 := by omega
          have b1 : (d0 == nd) = false := by simpa using e
          have b2 : ((o : Int) == 0) = false := by simpa using e1
          rw [b1, b2, decide_eq_true e0]
          exact ⟨rfl, rfl⟩
      go_upto_region 20 with fail
      clear hhb u2 ug

      have C1 : Calls Tryz.prog 20 #[.pointer (some ⟨b, 0, none⟩), .int .i64 (pt : Int), .int .i64 0, .int .i64 t2] wr fun e w' => ∃ F', e = .returned (.bool true) ∧ Rt w' b c2 B' F' ∧ Gr F wr w' F' := by
        have := router_find LI.out.rt (LI.out.tabs HTb.out.1) (LI.out.steps HTb.out.2) (pt : Int) 0 t2 h1 h2
        rw [TC.out.an, ← HM.out, TC.out.find] at this
        exact this
      have v2 : wr.cell? ⟨A + 1, 2, none⟩ = some (.int .i64 t2) := (XB.out.t.below LI.out.below XB.out.t.lt).cell 2
      have TB : Hid (∀ v, Below wb.heap.size wb v → v.cell? ⟨A + 1, 2, none⟩ = some (.int .i64 t2)) := show _ from fun v hb => (XB.out.t.below hb XB.out.t.lt).cell 2
      go_wp2_with fail
      go_at_call 20
      with_reducible refine C1.mono ?_
      rintro e x1 ⟨F1, rfl, n1, g1⟩
      have L1 : Hid (RSt wb x1 b c2 B' F1) := LI.out.step n1 g1
      clear C1 LI n1 g1 v2
      have C2 : Calls Tryz.prog 20 #[.pointer (some ⟨b, 0, none⟩), .int .i64 (pt : Int), .int .i64 0, .int .i64 t2] x1 fun e w' => ∃ F', e = .returned (.bool false) ∧ Rt w' b c2 B' F' ∧ Gr F1 x1 w' F' := by
        have := router_find L1.out.rt (L1.out.tabs HTb.out.1) (L1.out.steps HTb.out.2) (pt : Int) 0 t2 h1 h2
        rw [TC.out.bn, TC.out.again] at this
        exact this
      have v2 := TB.out x1 L1.out.below
      go_wp2_with fail
      go_at_call 20
      with_reducible refine C2.mono ?_
      rintro e x2 ⟨F2, rfl, n2, g2⟩
      have L2 : Hid (RSt wb x2 b c2 B' F2) := L1.out.step n2 g2
      clear C2 L1 n2 g2 v2 TB
      have C3 : Calls Tryz.prog 22 #[.pointer (some ⟨b, 0, none⟩), .int .i64 (pt : Int), .int .i64 0] x2 fun e w' => ∃ F', e = .returned (.bool (decide (o ≠ 0))) ∧ Rt w' b c2 E' F' ∧ Gr F2 x2 w' F' := by
        have := router_give L2.out.rt (pt : Int) 0
        rw [TC.out.give] at this
        exact this
      obtain ⟨gb, hgb⟩ : ∃ x, decide (o ≠ 0) = x := ⟨_, rfl⟩
      rw [hgb] at hbo C3
      have q1 := hbo.out.1
      go_wp2_with fail
      go_at_call 22
      with_reducible refine C3.mono ?_
      rintro e x3 ⟨F3, rfl, n3, g3⟩
      have L3 : Hid (RSt wb x3 b c2 E' F3) := L2.out.step n3 g3
      clear C3 L2 n3 g3 hgb
      go_wp2_with fail
      clear q1
      go_loopw [16, 17] (fun xo xq wr => ∃ (q u : Nat) (F : Nat → Prop), 1 ≤ q ∧ q ≤ 5 ∧ xq = .int .i64 q ∧ xo = .int .i64 u ∧ (u = if 1 ≤ o ∧ o < q then o else 0) ∧ RSt wb wr b c2 E' F) (fun _ xq _ => 5 - (RowKit.intOf xq).toNat)
      case atStart => exact ⟨1, 0, F3, by decide, by decide, rfl, rfl, by rw [if_neg (by omega)], L3.out⟩
      case round =>
        obtain ⟨q, u, F4, hq1, hq5, rfl, rfl, hu, l⟩ := hrel
        clear L3
        have LQ : Hid (RSt wb wr b c2 E' F4) := l
        have HU : Hid (u = if 1 ≤ o ∧ o < q then o else 0) := hu
        clear l hu
        by_cases hex2 : q < 5
        case neg =>
          obtain rfl : q = 5 := by omega
          obtain rfl : o = u := by
            have := HU.out
            split at this <;> omega
          have e2 : ¬ ((5 : Nat) : Int) < 5 := by decide
          have q2 := hbo.out.2
          have hnn : 0 < nn := by omega
          clear e9 e1
          go_wp2_with fail
          clear q2
          go_loopw [21] (fun x wr => ∃ (k : Nat) (S : RS) (F : Nat → Prop), k ≤ i ∧ x = .int .i64 k ∧ G' k S ∧ RSt wb wr b c2 S F) (fun x _ => i - (RowKit.intOf x).toNat)
          case atStart => exact ⟨0, E', F4, Nat.zero_le _, rfl, TC.out.beg, LQ.out⟩
          case round =>
            obtain ⟨k, S, F5, hk, rfl, hG, l⟩ := hrel
            clear LQ e2 HU
            have LK : Hid (RSt wb wr b c2 S F5) := l
            have HG : Hid (G' k S) := hG
            clear l hG
            by_cases hex3 : k < i
            case neg =>
              obtain rfl : k = i := by omega
              have e3 : ¬ (k : Int) < (k : Int) := by omega
              have hfin := TC.out.fin S (by rw [HM.out]; exact HG.out)
              have C5 : Calls Tryz.prog 24 #[.pointer (some ⟨b, 0, none⟩), .int .i64 (o : Int), .func (.func 31) #[] #[]] wr fun e w' => ∃ F', e = .returned (.tuple #[.agg zmvc, .bool false]) ∧ Rt w' b c2 S F' ∧ Gr F5 wr w' F' := by
                have := router_move LK.out.rt (o : Int) _ _ _ (all_may wr)
                rw [hfin.1] at this
                simp only [zko, Nat.zero_div, Nat.zero_mod] at this
                exact this
              have HI : Hid (idleRt S = true) := hfin.2.1
              clear hfin
              simp only [zmvc] at C5
              go_upto_region 38 with (go_at_call 24; with_reducible refine C5.mono ?_; rintro e x5 ⟨F6, rfl, n5, g5⟩)
              have L5 : Hid (RSt wb (x5.alloc (.cells #[.int .i64 0, .int .i64 0, .int .u64 0, .bool false, .bool false, .int .i64 0, .int .i64 0] 63)) b c2 S F6) := (LK.out.step n5 g5).alloc _
              clear C5 LK n5 g5
              generalize x5.alloc (.cells #[.int .i64 0, .int .i64 0, .int .u64 0, .bool false, .bool false, .int .i64 0, .int .i64 0] 63) = x6 at *
              have C6 := router_idle L5.out.rt
              rw [HI.out] at C6
              go_wp2_with (go_at_call 32; with_reducible refine C6.mono ?_; rintro e x7 ⟨rfl, hb7⟩)
              go_ret
              exact ⟨rfl, by
                rw [HAW.out]
                have := (L5.out.next hb7).below
                exact XB.out.b.trans (this.mono (by have := XB.out.lt; omega))⟩
            obtain ⟨g2, o2, rfl, hg2, k0⟩ := HX.out k wr hex3 LK.out.below
            have e3 : (k : Int) < (i : Int) := by omega
            have e0 : (0 : Int) ≤ (k : Int) := by omega
            have e4 : IntKind.i64.wrap ((k : Int) + 1) = ((k + 1 : Nat) : Int) := by rw [IntWalk.i64_in _ (by omega)]; omega
            obtain ⟨S', ms, gs, sn⟩ := TC.out.step k S (by rw [HM.out]; exact hex3) HG.out
            have C5 : Calls Tryz.prog 24 #[.pointer (some ⟨b, 0, none⟩), .int .i64 (o : Int), .func (.func 31) #[] #[]] wr fun e w' => ∃ F', e = .returned (.tuple #[.agg #[.int .i64 (o : Int), .int .i64 0, .int .u64 ((L.getD k 0 : Nat) : Int), .bool false, .bool (decide (k + 1 = L.length)), .int .i64 (pt : Int), .int .i64 0], .bool true]) ∧ Rt w' b c2 S' F' ∧ Gr F5 wr w' F' := by
              have := router_move LK.out.rt (o : Int) _ _ _ (all_may wr)
              rw [ms, sn] at this
              simp only [Nat.mul_div_cancel _ hnn, Nat.mul_mod_left] at this
              exact this
            have hcell : Hid (∀ v, Below wb.heap.size wb v → v.cell? ⟨g2, o2 + k, none⟩ = some (.int .u64 ((L.getD k 0 : Nat) : Int))) := show _ from fun v hb => by
              obtain ⟨g', o', e', _, k'⟩ := HX.out k v hex3 hb
              simp only [Option.some.injEq, Addr.mk.injEq, and_true] at e'
              obtain ⟨rfl, rfl⟩ := e'
              exact k'
            have GS : Hid (G' (k + 1) S') := gs
            obtain ⟨y, hy⟩ : ∃ y : Int, ((L.getD k 0 : Nat) : Int) = y := ⟨_, rfl⟩
            obtain ⟨tlb, htl⟩ : ∃ t, decide (k + 1 = L.length) = t := ⟨_, rfl⟩
            rw [hy] at hcell k0 C5
            rw [htl] at C5
            have HS : Hid (∀ w' F', Rt w' b c2 S' F' → Gr F5 wr w' F' → RSt wb w' b c2 S' F') := show _ from fun w' F' n g => LK.out.step n g
            clear hy htl ms gs sn LK k0
            go_upto_region 35 with (go_at_call 24; with_reducible refine C5.mono ?_; rintro e x5 ⟨F6, rfl, n5, g5⟩)
            have L5 : Hid (RSt wb (x5.alloc (.cells #[.int .i64 (o : Int), .int .i64 0, .int .u64 y, .bool false, .bool tlb, .int .i64 (pt : Int), .int .i64 0] 63)) b c2 S' F6) := (HS.out _ _ n5 g5).alloc _
            have A5 : Bk (x5.alloc (.cells #[.int .i64 (o : Int), .int .i64 0, .int .u64 y, .bool false, .bool tlb, .int .i64 (pt : Int), .int .i64 0] 63)) x5.heap.size #[.int .i64 (o : Int), .int .i64 0, .int .u64 y, .bool false, .bool tlb, .int .i64 (pt : Int), .int .i64 0] 63 := Bk.new _ _ _
            have k1 := hcell.out _ L5.out.below
            clear C5 HS n5 g5
            generalize x5.alloc (.cells #[.int .i64 (o : Int), .int .i64 0, .int .u64 y, .bool false, .bool tlb, .int .i64 (pt : Int), .int .i64 0] 63) = x6 at *
            generalize x5.heap.size = kb at *
            have c0 := A5.cell 0
            have c1 := A5.cell 1
            have c2' := A5.cell 2
            have c3 := A5.cell 3
            have c5 := A5.cell 5
            have c6 := A5.cell 6
            simp only [List.getElem?_toArray, List.getElem?_cons_zero, List.getElem?_cons_succ] at c0 c1 c2' c3 c5 c6
            go_quiet (fail)
            have L6 : Hid (RSt wb (x6.drewN nq) b c2 S' F6) := L5.out.drewN nq
            clear c0 c1 c2' c3 c5 c6 A5 k1 L5
            go_wp2
            go_roundw
            case rel => exact ⟨k + 1, S', F6, by omega, by go_num, GS.out, L6.out⟩
            case measure => simp [RowKit.intOf]; omega
        have C4 : Calls Tryz.prog 27 #[.pointer (some ⟨b, 0, none⟩), .int .i64 (q : Int), .int .i64 0] wr fun e w' => e = .returned (if q = o then .tuple #[.int .i64 (pt : Int), .int .i64 0, .bool true] else .tuple #[.int .i64 0, .int .i64 0, .bool false]) ∧ Below wr.heap.size wr w' := by
          have := router_owner LQ.out.rt (q : Int) 0
          rw [TC.out.own q hex2 hq1] at this
          split
          · rename_i e
            rw [if_pos e] at this
            exact this
          · rename_i e
            rw [if_neg e] at this
            exact this
        have e2 : (q : Int) < 5 := by omega
        have e3 : IntKind.i64.wrap ((q : Int) + 1) = ((q + 1 : Nat) : Int) := by rw [IntWalk.i64_in _ (by omega)]; omega
        have HL : Hid (∀ w', Below wr.heap.size wr w' → RSt wb w' b c2 E' F4) := show _ from fun w' h => LQ.out.next h
        by_cases ho : q = o
        · rw [if_pos ho] at C4
          subst ho
          go_wp2_with (go_at_call 27; with_reducible refine C4.mono ?_; rintro e x4 ⟨rfl, hb4⟩)
          go_roundw
          case rel => exact ⟨q + 1, q, F4, by omega, by omega, by go_num, rfl, by rw [if_pos ⟨by omega, by omega⟩], HL.out _ hb4⟩
          case measure => simp [RowKit.intOf]; omega
        · rw [if_neg ho] at C4
          have HNE : Hid (¬ q = o) := ho
          clear ho
          go_wp2_with (go_at_call 27; with_reducible refine C4.mono ?_; rintro e x4 ⟨rfl, hb4⟩)
          go_roundw
          case rel => exact ⟨q + 1, u, F4, by omega, by omega, by go_num, rfl, by
            have := HU.out
            have := HNE.out
            rw [HU.out]
            split <;> split <;> omega, HL.out _ hb4⟩
          case measure => simp [RowKit.intOf]; omega
    obtain ⟨g2, o2, rfl, hg2, k0⟩ := HX.out i wr hex LI.out.below
    have e1 : (i : Int) < (m : Int) := by omega
    have e0 : (0 : Int) ≤ (i : Int) := by omega
    have e2 : IntKind.i64.wrap ((i : Int) + 1) = ((i + 1 : Nat) : Int) := by rw [IntWalk.i64_in _ (by omega)]; omega
    have PC : Calls Tryz.prog 18 #[.pointer (some ⟨b, 0, none⟩), .int .i64 (pt : Int), .int .i64 0, .int .u64 ((L.getD i 0 : Nat) : Int)] wr fun e w' => ∃ F', e = .returned (.int .i64 0) ∧ Rt w' b c2 (A' (i + 1)) F' ∧ Gr F wr w' F' := by
      have := router_put LI.out.rt (pt : Int) 0 (L.getD i 0) (hPl.out i hex)
      rw [TC.out.put i (by rw [HM.out]; exact hex)] at this
      exact this
    have HS : Hid (∀ w' F', Rt w' b c2 (A' (i + 1)) F' → Gr F wr w' F' → RSt wb w' b c2 (A' (i + 1)) F') := show _ from fun w' F' n g => LI.out.step n g
    obtain ⟨y, hy⟩ : ∃ y : Int, ((L.getD i 0 : Nat) : Int) = y := ⟨_, rfl⟩
    rw [hy] at k0 PC
    clear hy
    go_wp2_with fail
    go_at_call 18
    with_reducible refine PC.mono ?_
    rintro e w4 ⟨F', rfl, n4, g4⟩
    have L4 : Hid (RSt wb w4 b c2 (A' (i + 1)) F') := HS.out _ _ n4 g4
    clear PC HS n4 g4 k0
    go_wp2
    go_roundw
    case rel => exact ⟨i + 1, F', by omega, by go_num, L4.out⟩
    case measure => simp [RowKit.intOf]; omega
end Go.Proofs.YtmmegmonmilkcaaGreatDoor
