/-
 The walk of RouterPlays. (Written by gen_rply.py.)
-/
import Derived.Test.YtmmegmonmilkcaaGreatDoorRtH
import Derived.Test.YtmmegmonmilkcaaGreatDoorRf15z
import Derived.Test.YtmmegmonmilkcaaGreatDoorRf15n
import Derived.Test.YtmmegmonmilkcaaGreatDoorRf15u
import Derived.Test.YtmmegmonmilkcaaGreatDoorRf15f
import Derived.Test.YtmmegmonmilkcaaGreatDoorRf15g
import Derived.Test.YtmmegmonmilkcaaGreatDoorRf15m
import Derived.Test.YtmmegmonmilkcaaGreatDoorRf15l
import Derived.Deep.CutBlock
namespace Go.Proofs.YtmmegmonmilkcaaGreatDoor
open Go.RowKit
set_option maxRecDepth 100000 in
set_option maxHeartbeats 16000000 in
theorem plays_law (c0 : G.Cf) (node0 : Int) (R : List Opn) (a : Option Addr) (cap : Nat) (w : World) (hr : OpsIn w a R) (hcap : R.length ≤ cap) (hm : cap ≤ maxLen) (hnil : a = none → cap = 0) (hT : G.Tabs w) (hS : G.Steps w) :
  Calls Tryz.prog 3 #[G.cfv c0, .int .i64 node0, .slice a R.length cap] w fun e w' => e = .returned (.bool true) ∧ Below w.heap.size w w' := by
 have SC := fun v => G.small_form c0 v
 have EC := fun v => early_any a R.length cap v hcap hm hnil
 have NC := fun (c : G.Cf) (h : G.chk c = 0) v => G.node_any c h node0 v
 have WC := fun (c : G.Cf) (h : G.chk c = 0) n (hn : G.isN c n = true) v => router_new c h n hn v
 have Q0 : Hid (Bk (w.alloc (.cells (G.cfc c0) 23)) w.heap.size (G.cfc c0) 23) := Bk.new _ _ _
 have B0 : Hid (Below w.heap.size w (w.alloc (.cells (G.cfc c0) 23))) := (Below.refl _ _).alloc (Nat.le_refl _) _
 have LV := lives_any _ (hT.next B0.out) (hS.next B0.out)
 have HT : Hid (G.Tabs w ∧ G.Steps w) := show _ ∧ _ from ⟨hT, hS⟩
 have HR : Hid (OpsIn w a R) := hr
 clear hr hT hS hnil
 obtain ⟨cw, ch, cl, cd, cr, ci, cb, we, ca⟩ := c0
 simp only [G.cfv, G.cfc] at *
 go_enter Tryz.func3, Tryz.ntmps3
 go_upto_region 1 with fail
 generalize w.alloc (.cells (zq5 cw ch cl cd cr ci cb we ca) 23) = v0 at *
 obtain ⟨A, hA⟩ : ∃ A, w.heap.size = A := ⟨_, rfl⟩
 have HAW : Hid (w.heap.size = A) := hA
 rw [hA] at Q0 B0 ⊢
 clear hA
 go_wp2_with fail
 go_at_call 9
 with_reducible refine LV.mono ?_
 rintro e w1 ⟨rfl, b1⟩
 have Q1 : Hid (Bk w1 A (zq5 cw ch cl cd cr ci cb we ca) 23) := Q0.out.next b1
 have B1 : Hid (Below A w w1) := B0.out.trans (b1.mono (Nat.le_of_lt Q0.out.lt))
 clear LV b1 Q0 B0
 obtain ⟨k0, k1, k2, k3, k4, k5, k6, k7, k8⟩ := rcfg_cells Q1.out
 go_wp2_with fail
 go_at_call 10
 with_reducible refine (SC _).mono ?_
 rintro e w2 ⟨dw, dh, dl, dd, dr, di, db, de, da, rfl, b2, ft, hw4, hh4⟩
 have Q2 : Hid (Bk w2 A (zq5 cw ch cl cd cr ci cb we ca) 23) := Q1.out.next b2
 have B2 : Hid (Below A w w2) := B1.out.trans (b2.mono (Nat.le_of_lt Q1.out.lt))
 clear SC Q1 B1 k0 k1 k2 k3 k4 k5 k6 k7 k8 b2
 obtain ⟨k0, k1, k2, k3, k4, k5, k6, k7, k8⟩ := rcfg_cells Q2.out
 obtain ⟨z0, z1, z2, z3, z4, z5, z6, z7, z8⟩ : w2.frozen? ⟨A, 0, none⟩ = false ∧ w2.frozen? ⟨A, 1, none⟩ = false ∧ w2.frozen? ⟨A, 2, none⟩ = false ∧ w2.frozen? ⟨A, 3, none⟩ = false ∧ w2.frozen? ⟨A, 4, none⟩ = false ∧ w2.frozen? ⟨A, 5, none⟩ = false ∧ w2.frozen? ⟨A, 6, none⟩ = false ∧ w2.frozen? ⟨A, 7, none⟩ = false ∧ w2.frozen? ⟨A, 8, none⟩ = false := ⟨Q2.out.free 0, Q2.out.free 1, Q2.out.free 2, Q2.out.free 3, Q2.out.free 4, Q2.out.free 5, Q2.out.free 6, Q2.out.free 7, Q2.out.free 8⟩
 have hchk := G.chk_fits ft
 go_upto_region 4 with fail
 have Q3 : Hid (Bk (((((((((w2.setCell ⟨A, 0, none⟩ (.int .i64 dw)).setCell ⟨A, 1, none⟩ (.int .i64 dh)).setCell ⟨A, 2, none⟩ (.int .i64 dl)).setCell ⟨A, 3, none⟩ (.int .i64 dd)).setCell ⟨A, 4, none⟩ (.int .i64 dr)).setCell ⟨A, 5, none⟩ (.int .i64 di)).setCell ⟨A, 6, none⟩ (.int .i64 db)).setCell ⟨A, 7, none⟩ (.bool de)).setCell ⟨A, 8, none⟩ (.bool da)) A (zq5 dw dh dl dd dr di db de da) 23) := G.Blk.all (show G.Blk w2 A ⟨cw, ch, cl, cd, cr, ci, cb, we, ca⟩ from Q2.out) ⟨dw, dh, dl, dd, dr, di, db, de, da⟩
 have B3 : Hid (Below A w (((((((((w2.setCell ⟨A, 0, none⟩ (.int .i64 dw)).setCell ⟨A, 1, none⟩ (.int .i64 dh)).setCell ⟨A, 2, none⟩ (.int .i64 dl)).setCell ⟨A, 3, none⟩ (.int .i64 dd)).setCell ⟨A, 4, none⟩ (.int .i64 dr)).setCell ⟨A, 5, none⟩ (.int .i64 di)).setCell ⟨A, 6, none⟩ (.int .i64 db)).setCell ⟨A, 7, none⟩ (.bool de)).setCell ⟨A, 8, none⟩ (.bool da))) := G.below_nine B2.out (Nat.le_refl _) _ _ _ _ _ _ _ _ _
 clear Q2 B2 k0 k1 k2 k3 k4 k5 k6 k7 k8 z0 z1 z2 z3 z4 z5 z6 z7 z8
 generalize ((((((((w2.setCell ⟨A, 0, none⟩ (.int .i64 dw)).setCell ⟨A, 1, none⟩ (.int .i64 dh)).setCell ⟨A, 2, none⟩ (.int .i64 dl)).setCell ⟨A, 3, none⟩ (.int .i64 dd)).setCell ⟨A, 4, none⟩ (.int .i64 dr)).setCell ⟨A, 5, none⟩ (.int .i64 di)).setCell ⟨A, 6, none⟩ (.int .i64 db)).setCell ⟨A, 7, none⟩ (.bool de)).setCell ⟨A, 8, none⟩ (.bool da) = v2 at *
 have hnode := G.nde_in hchk node0
 have NC2 : ∀ v, Calls Tryz.prog 11 #[.agg (zq5 dw dh dl dd dr di db de da), .int .i64 node0] v fun e w' => e = .returned (.int .i64 (G.nde ⟨dw, dh, dl, dd, dr, di, db, de, da⟩ node0)) ∧ Below v.heap.size v w' := fun v => NC ⟨dw, dh, dl, dd, dr, di, db, de, da⟩ hchk v
 have WC2 : ∀ v, Calls Tryz.prog 12 #[.agg (zq5 dw dh dl dd dr di db de da), .int .i64 (G.nde ⟨dw, dh, dl, dd, dr, di, db, de, da⟩ node0)] v fun e w' => ∃ p F, e = .returned (.pointer (some ⟨p, 0, none⟩)) ∧ Rt w' p ⟨dw, dh, dl, dd, dr, di, db, de, da⟩ (newRt dl.toNat dd.toNat (G.nde ⟨dw, dh, dl, dd, dr, di, db, de, da⟩ node0)) F ∧ (∀ g, F g → v.heap.size ≤ g) ∧ Below v.heap.size v w' := fun v => WC ⟨dw, dh, dl, dd, dr, di, db, de, da⟩ hchk _ hnode v
 have hl1 : 1 ≤ dl := ft.l1
 have hl8 : dl ≤ 8 := ft.l2
 have hWD : Hid (∀ v x, x.In v → Calls Tryz.prog 17 #[ov x, .agg (zq5 dw dh dl dd dr di db de da)] v fun e w' => e = .returned (.int .u64 (wordR ⟨dw, dh, dl, dd, dr, di, db, de, da⟩ x : Int)) ∧ Below v.heap.size v w') := show _ from fun v x hx => word_any x ⟨dw, dh, dl, dd, dr, di, db, de, da⟩ hchk v hx
 have hd1 : 1 ≤ dd := ft.d1
 have NR : Hid (∀ v, Calls Tryz.prog 13 #[.agg (zq5 dw dh dl dd dr di db de da), .int .i64 (G.nde ⟨dw, dh, dl, dd, dr, di, db, de, da⟩ node0)] v fun e w' => ∃ v', e = .returned v' ∧ DR w' ⟨dw, dh, dl, dd, dr, di, db, de, da⟩ (newRt dl.toNat dd.toNat (G.nde ⟨dw, dh, dl, dd, dr, di, db, de, da⟩ node0)) v' (fun g => v.heap.size ≤ g) ∧ Below v.heap.size v w') := show _ from fun v => rnew15 ⟨dw, dh, dl, dd, dr, di, db, de, da⟩ dl.toNat dd.toNat (by show (dl.toNat : Int) = dl; omega) (by show (dd.toNat : Int) = dd; omega) (by omega) (by omega) _ v
 have HCF : Hid (G.cfc ⟨dw, dh, dl, dd, dr, di, db, de, da⟩ = (zq5 dw dh dl dd dr di db de da)) := show _ = _ from rfl
 clear NC WC hw4 hh4 ft hchk hnode
 generalize (⟨dw, dh, dl, dd, dr, di, db, de, da⟩ : G.Cf) = c2 at *
 generalize G.nde c2 node0 = node at *
 obtain ⟨nn, rfl⟩ : ∃ nn : Nat, dl = (nn : Int) := ⟨dl.toNat, by omega⟩
 simp only [Int.toNat_natCast] at *
 generalize newRt nn dd.toNat node = S0 at *
 obtain ⟨k0, k1, k2, k3, k4, k5, k6, k7, k8⟩ := rcfg_cells Q3.out
 go_wp2_with fail
 go_at_call 11
 with_reducible refine (NC2 _).mono ?_
 rintro e w4 ⟨rfl, b4⟩
 have Q4 : Hid (Bk w4 A (zq5 dw dh (nn : Int) dd dr di db de da) 23) := Q3.out.next b4
 have B4 : Hid (Below A w w4) := B3.out.trans (b4.mono (Nat.le_of_lt Q3.out.lt))
 clear NC2 b4 Q3 B3 k0 k1 k2 k3 k4 k5 k6 k7 k8
 obtain ⟨k0, k1, k2, k3, k4, k5, k6, k7, k8⟩ := rcfg_cells Q4.out
 go_upto_region 5 with fail
 go_cut [7, 8] from 30 to 35 (fun y z wc => ∃ b wx F cs, y = .pointer (some ⟨b, 0, none⟩) ∧ z = .pointer (some ⟨wx, 0, none⟩) ∧ PS w4 wc b wx c2 S0 F cs)
 case first =>
  have L0 : Hid (Below w4.heap.size w4 w4.drew) := show Below _ _ _ from (Below.refl _ _).drew
  have TZ : Hid (∀ u, Below w4.heap.size w4 u → Bk u A (zq5 dw dh (nn : Int) dd dr di db de da) 23) := show _ from fun u hu => Q4.out.next hu
  have T0 := TZ.out _ L0.out
  refine wp_region_G (fun V => Bk V A (zq5 dw dh (nn : Int) dd dr di db de da) 23) 8 (by kernel_rfl) ?_
  refine wpAnyG_tk [8] (some 30) (i := 0) rfl rfl (by kernel_rfl) (fun _ _ _ h => h) (yields_bk rfl 23 (.tmp 3) rfl A rfl _ (fun V hSV => hSV) Tryz.underlying23 rfl (by kernel_rfl)) T0 ?r0
  try simp only [Act.put, sqa, sqz, sqs]
  refine wpAnyG_tk [8] (some 31) (i := 1) (v := ?v1) rfl rfl (by kernel_rfl) (fun _ _ _ h => h) (Or.inl ⟨by rfl, ?y1⟩) T0 ?r1
  case y1 => (intro V hSV; have s0 := hSV; go_simp; try with_reducible rfl)
  try simp only [Act.put, sqa, sqz, sqs]
  refine wpAnyG_tk [8] (some 33) (i := 3) rfl rfl (by kernel_rfl) (fun _ _ _ h => h) (yields_bk rfl 23 (.tmp 3) rfl A rfl _ (fun V hSV => hSV) Tryz.underlying23 rfl (by kernel_rfl)) T0 ?r3
  try simp only [Act.put, sqa, sqz, sqs]
  refine wpAnyG_tk [8] (some 34) (i := 4) (v := ?v4) rfl rfl (by kernel_rfl) (fun _ _ _ h => h) (Or.inl ⟨by rfl, ?y4⟩) T0 ?r4
  case y4 => (intro V hSV; have s0 := hSV; go_simp; try with_reducible rfl)
  try simp only [Act.put, sqa, sqz, sqs]
  generalize w4.drew = v4 at *
  refine wpAnyG_any [2, 6] (by kernel_rfl) (by rfl) ?_
  intro i9 hi9
  rcases mem2 hi9 with rfl | rfl
  ·clear hi9
   refine wpOpG (i := 2) rfl (fun K9 hK => ?_)
   go_simp
   with_reducible refine (WC2 _).mono ?_
   rintro e u1 ⟨b, F0, rfl, n5, f5, bb0⟩
   have BB1 : Below w4.heap.size w4 u1 := L0.out.trans (bb0.mono L0.out.size)
   have R5 : RSt w4 u1 b c2 S0 F0 := ⟨n5, fun g hg => Nat.le_trans L0.out.size (f5 g hg), BB1⟩
   have T1 := TZ.out _ BB1
   refine hK.out _ _ (Or.inr T1) ?_
   clear hK K9
   try simp only [Act.put, sqa, sqz, sqs]
   refine wpAnyG_any [5, 6] (by kernel_rfl) (by rfl) ?_
   intro i9 hi9
   rcases mem2 hi9 with rfl | rfl
   ·clear hi9
    refine wpOpG (i := 5) rfl (fun K9 hK => ?_)
    go_simp
    with_reducible refine (NR.out _).mono ?_
    rintro e u2 ⟨vv, rfl, dr, bb1⟩
    obtain ⟨cs, rfl, hs, ho⟩ := dr.agg
    have BB2 : Below w4.heap.size w4 u2 := BB1.trans (bb1.mono BB1.size)
    have R5n := R5.next bb1
    have DD : ∀ g, u1.heap.size ≤ g → ¬ F0 g := fun g hg hf => by have := R5.rt.lt g hf; omega
    have T2 := TZ.out _ BB2
    refine hK.out _ _ (Or.inr T2) ?_
    clear hK K9
    try simp only [Act.put, sqa, sqz, sqs]
    refine wpAnyG_one (i := 6) (by kernel_rfl) rfl (fun K9 hK => ?_)
    go_simp
    have BB3 : Below w4.heap.size w4 (u2.alloc (.cells zqZ 34)) := BB2.alloc BB2.size _
    have KB := Bk.new u2 zqZ 34
    have hq0 : w4.heap.size ≤ u2.heap.size := BB2.size
    have NF : ¬ F0 u2.heap.size := fun h => by have := R5n.rt.lt _ h; omega
    have RA := R5n.alloc (.cells zqZ 34)
    have dr2 := (dr.mono (D' := fun g => u1.heap.size ≤ g ∧ g < u2.heap.size) (fun g h1 h2 => ⟨h2, h1⟩)).next ((Below.refl _ _).alloc (Nat.le_refl _) (.cells zqZ 34))
    have T3 := TZ.out _ BB3
    refine hK.out _ _ (Or.inr T3) ?_
    clear hK K9
    try simp only [Act.put, sqa, sqz, sqs]
    generalize hqq : u2.heap.size = qx at *
    generalize u2.alloc (.cells zqZ 34) = u3 at *
    refine wpAnyG_one (i := 7) (by kernel_rfl) rfl (fun K9 hK => ?_)
    go_simp
    refine hK.out _ _ (Or.inr T3) ?_
    clear hK K9
    try simp only [Act.put, sqa, sqz, sqs]
    refine wpAnyG_one (i := 8) (by kernel_rfl) rfl (fun K9 hK => ?_)
    refine step_store_bk rfl 34 (.tmp 8) (.tmp 35) rfl qx cs rfl rfl KB (by rw [hs]; kernel_rfl) (by rw [hs]; rfl) ho ?_
    intro uF sF oF
    have dF := dr2.on oF (by first | exact (fun h => by omega) | (simp only [not_and]; intro h; omega))
    have rF := RA.kept oF.out (fun r e => by cases e; exact ⟨NF, hq0⟩)
    refine hK.out _ _ (Or.inl (by kernel_rfl)) ?_
    clear hK K9
    try simp only [Act.put, sqa]
    refine wpAnyG_done (by kernel_rfl) ?_ _
    go_wp2_with fail
    go_meet
    exact ⟨b, qx, F0, cs, rfl, rfl, rF, dF.mono (fun g _ hg => ⟨DD g hg.1, fun e9 => by have := hg.2; omega⟩), sF, hq0, NF⟩
   ·clear hi9
    refine wpOpG (i := 6) rfl (fun K9 hK => ?_)
    go_simp
    have BB2 : Below w4.heap.size w4 (u1.alloc (.cells zqZ 34)) := BB1.alloc BB1.size _
    have KB := Bk.new u1 zqZ 34
    have hq0 : w4.heap.size ≤ u1.heap.size := BB1.size
    have NF : ¬ F0 u1.heap.size := fun h => by have := R5.rt.lt _ h; omega
    have RA := R5.alloc (.cells zqZ 34)
    have T2 := TZ.out _ BB2
    refine hK.out _ _ (Or.inr T2) ?_
    clear hK K9
    try simp only [Act.put, sqa, sqz, sqs]
    generalize hqq : u1.heap.size = qx at *
    generalize u1.alloc (.cells zqZ 34) = u2 at *
    refine wpAnyG_one (i := 5) (by kernel_rfl) rfl (fun K9 hK => ?_)
    go_simp
    with_reducible refine (NR.out _).mono ?_
    rintro e u3 ⟨vv, rfl, dr, bb2⟩
    obtain ⟨cs, rfl, hs, ho⟩ := dr.agg
    have BB3 : Below w4.heap.size w4 u3 := BB2.trans (bb2.mono BB2.size)
    have R5n := RA.next bb2
    have DD : ∀ g, u2.heap.size ≤ g → ¬ F0 g := fun g hg hf => by have := RA.rt.lt g hf; omega
    have KB3 := KB.next bb2
    have hqu := KB.lt
    have T3 := TZ.out _ BB3
    refine hK.out _ _ (Or.inr T3) ?_
    clear hK K9
    try simp only [Act.put, sqa, sqz, sqs]
    refine wpAnyG_one (i := 7) (by kernel_rfl) rfl (fun K9 hK => ?_)
    go_simp
    refine hK.out _ _ (Or.inr T3) ?_
    clear hK K9
    try simp only [Act.put, sqa, sqz, sqs]
    refine wpAnyG_one (i := 8) (by kernel_rfl) rfl (fun K9 hK => ?_)
    refine step_store_bk rfl 34 (.tmp 8) (.tmp 35) rfl qx cs rfl rfl KB3 (by rw [hs]; kernel_rfl) (by rw [hs]; rfl) ho ?_
    intro uF sF oF
    have dF := dr.on oF (by first | exact (fun h => by omega) | (simp only [not_and]; intro h; omega))
    have rF := R5n.kept oF.out (fun r e => by cases e; exact ⟨NF, hq0⟩)
    refine hK.out _ _ (Or.inl (by kernel_rfl)) ?_
    clear hK K9
    try simp only [Act.put, sqa]
    refine wpAnyG_done (by kernel_rfl) ?_ _
    go_wp2_with fail
    go_meet
    exact ⟨b, qx, F0, cs, rfl, rfl, rF, dF.mono (fun g _ hg => ⟨DD g hg, fun e9 => by omega⟩), sF, hq0, NF⟩
  ·clear hi9
   refine wpOpG (i := 6) rfl (fun K9 hK => ?_)
   go_simp
   have BB1 : Below w4.heap.size w4 (v4.alloc (.cells zqZ 34)) := L0.out.alloc L0.out.size _
   have KB := Bk.new v4 zqZ 34
   have hq0 : w4.heap.size ≤ v4.heap.size := L0.out.size
   have T1 := TZ.out _ BB1
   refine hK.out _ _ (Or.inr T1) ?_
   clear hK K9
   try simp only [Act.put, sqa, sqz, sqs]
   generalize hqq : v4.heap.size = qx at *
   generalize v4.alloc (.cells zqZ 34) = u1 at *
   refine wpAnyG_one (i := 2) (by kernel_rfl) rfl (fun K9 hK => ?_)
   go_simp
   with_reducible refine (WC2 _).mono ?_
   rintro e u2 ⟨b, F0, rfl, n5, f5, bb1⟩
   have BB2 : Below w4.heap.size w4 u2 := BB1.trans (bb1.mono BB1.size)
   have R5 : RSt w4 u2 b c2 S0 F0 := ⟨n5, fun g hg => Nat.le_trans BB1.size (f5 g hg), BB2⟩
   have KB2 := KB.next bb1
   have NF : ¬ F0 qx := fun h => by have := f5 _ h; have := KB.lt; omega
   have T2 := TZ.out _ BB2
   refine hK.out _ _ (Or.inr T2) ?_
   clear hK K9
   try simp only [Act.put, sqa, sqz, sqs]
   refine wpAnyG_one (i := 5) (by kernel_rfl) rfl (fun K9 hK => ?_)
   go_simp
   with_reducible refine (NR.out _).mono ?_
   rintro e u3 ⟨vv, rfl, dr, bb2⟩
   obtain ⟨cs, rfl, hs, ho⟩ := dr.agg
   have BB3 : Below w4.heap.size w4 u3 := BB2.trans (bb2.mono BB2.size)
   have R5n := R5.next bb2
   have DD : ∀ g, u2.heap.size ≤ g → ¬ F0 g := fun g hg hf => by have := R5.rt.lt g hf; omega
   have KB3 := KB2.next bb2
   have hqu := KB2.lt
   have T3 := TZ.out _ BB3
   refine hK.out _ _ (Or.inr T3) ?_
   clear hK K9
   try simp only [Act.put, sqa, sqz, sqs]
   refine wpAnyG_one (i := 7) (by kernel_rfl) rfl (fun K9 hK => ?_)
   go_simp
   refine hK.out _ _ (Or.inr T3) ?_
   clear hK K9
   try simp only [Act.put, sqa, sqz, sqs]
   refine wpAnyG_one (i := 8) (by kernel_rfl) rfl (fun K9 hK => ?_)
   refine step_store_bk rfl 34 (.tmp 8) (.tmp 35) rfl qx cs rfl rfl KB3 (by rw [hs]; kernel_rfl) (by rw [hs]; rfl) ho ?_
   intro uF sF oF
   have dF := dr.on oF (by first | exact (fun h => by omega) | (simp only [not_and]; intro h; omega))
   have rF := R5n.kept oF.out (fun r e => by cases e; exact ⟨NF, hq0⟩)
   refine hK.out _ _ (Or.inl (by kernel_rfl)) ?_
   clear hK K9
   try simp only [Act.put, sqa]
   refine wpAnyG_done (by kernel_rfl) ?_ _
   go_wp2_with fail
   go_meet
   exact ⟨b, qx, F0, cs, rfl, rfl, rF, dF.mono (fun g _ hg => ⟨DD g hg, fun e9 => by omega⟩), sF, hq0, NF⟩
 case rest =>
  obtain ⟨b, wx, F0, cs0, rfl, rfl, L5'⟩ := hcut
  have L5 : Hid _ := L5'
  clear WC2 NR L5' k0 k1 k2 k3 k4 k5 k6 k7 k8
  have HR4 : Hid (OpsIn w4 a R) := by
   have h9 := B4.out
   rw [← HAW.out] at h9
   exact HR.out.next h9
  have HT4 : Hid (G.Tabs w4 ∧ G.Steps w4) := by
   have h9 := B4.out
   rw [← HAW.out] at h9
   exact show _ ∧ _ from ⟨HT.out.1.next h9, HT.out.2.next h9⟩
  clear HR HT
  obtain ⟨n, hn⟩ : ∃ n, min R.length 120 = n := ⟨_, rfl⟩
  have hn120 : n ≤ 120 := by omega
  have hnR : n ≤ R.length := by omega
  go_wp2_with fail
  go_at_call 14
  with_reducible refine (EC _).mono ?_
  rintro e w6 ⟨rfl, rfl⟩
  rw [hn]
  clear EC hn hcap hm
  go_wp2_with fail
  go_loopw [9] (fun y wr => ∃ (j : Nat) (S : RS) (F : Nat → Prop) (cs : Array Value), j ≤ n ∧ y = .int .i64 j ∧ PS w4 wr b wx c2 S F cs) (fun y _ => n - (RowKit.intOf y).toNat)
  case atStart => exact ⟨0, S0, F0, cs0, Nat.zero_le _, rfl, L5.out⟩
  case round =>
   clear L5
   obtain ⟨j, S, F, cs, hjn, rfl, l⟩ := hrel
   have L : Hid _ := l
   clear l
   by_cases hex : j < n
   case neg =>
    have e1 : ¬ (j : Int) < (n : Int) := by omega
    go_wp2
    go_ret
    exact ⟨rfl, by rw [HAW.out]; exact B4.out.trans (L.out.rt.below.mono (Nat.le_of_lt Q4.out.lt))⟩
   obtain ⟨g, o, x, rfl, hg, hx, xi, hc⟩ := HR4.out j (by omega)
   have e1 : (j : Int) < (n : Int) := by omega
   have e3 : (0 : Int) ≤ (j : Int) := by omega
   have HJ : Hid (j < n) := hex
   have hc2 : ∀ i, i < 9 → wr.cell? ⟨g, o + j * 9 + i, none⟩ = (oc x)[i]? := fun i hi => (L.out.rt.below.cell (p := ⟨g, o + j * 9 + i, none⟩) hg).trans (hc i hi)
   have x0 := hc2 0 (by decide)
   have x1 := hc2 1 (by decide)
   have x2 := hc2 2 (by decide)
   have x3 := hc2 3 (by decide)
   have x4 := hc2 4 (by decide)
   have x5 := hc2 5 (by decide)
   have x6 := hc2 6 (by decide)
   have x7 := hc2 7 (by decide)
   have x8 := hc2 8 (by decide)
   have XI : Hid (x.In w4) := xi
   simp only [oc, sqg, sqh, sqt, Nat.add_zero] at x0 x1 x2 x3 x4 x5 x6 x7 x8
   clear hc hx xi hc2 hjn hex
   go_upto_region 13 with fail
   have P7 : Hid (Bk (wr.alloc (.cells (zq9 x.kd x.p x.l x.n x.s x.cc x.ha x.hs.length x.hcap x.x x.ma x.my.length x.mcap) 42)) wr.heap.size (zq9 x.kd x.p x.l x.n x.s x.cc x.ha x.hs.length x.hcap x.x x.ma x.my.length x.mcap) 42) := Bk.new _ _ _
   have L7 : Hid (PS w4 (wr.alloc (.cells (zq9 x.kd x.p x.l x.n x.s x.cc x.ha x.hs.length x.hcap x.x x.ma x.my.length x.mcap) 42)) b wx c2 S F cs) := L.out.next ((Below.refl _ _).alloc (Nat.le_refl _) _)
   have O7 : Hid (¬ F wr.heap.size) := L.out.rt.off (Nat.le_refl _)
   clear x0 x1 x2 x3 x4 x5 x6 x7 x8 L hg
   generalize wr.alloc (.cells (zq9 x.kd x.p x.l x.n x.s x.cc x.ha x.hs.length x.hcap x.x x.ma x.my.length x.mcap) 42) = w7 at *
   generalize wr.heap.size = ob at *
   have hk4 := x.k_lt
   have KC := fun v => opkind_any x v
   generalize x.k = kv at *
   have y0 := op_cells (show Bk w7 ob (oc x) _ from P7.out)
   obtain ⟨y0, y1, y2, y3, y4, y5, y6, y7, y8⟩ := y0
   go_upto_block 2 with (go_at_call 15; with_reducible refine (KC _).mono ?_; rintro e w8 ⟨rfl, b8⟩)
   have P8 : Bk w8 ob (oc x) 42 := P7.out.next b8
   have L8 : PS w4 w8 b wx c2 S F cs := L7.out.next b8
   have hAw : A < w4.heap.size := Q4.out.lt
   have hAF : ¬ F A := fun h => by have := L8.rt.news A h; omega
   have Z8 : Hid (ZS w4 w8 b wx ob A c2 S S F (stD F wx) cs cs x) := L8.zs P8 (by rw [HCF.out]; exact Q4.out.below L8.rt.below hAw) O7.out hAF
   clear P7 L7 KC b8 y0 y1 y2 y3 y4 y5 y6 y7 y8 P8 L8 O7 hAw hAF
   go_cut [11] from 52 to 167 (fun y wc => y = .bool true ∧ ∃ S' F' cs', PS w4 wc b wx c2 S' F' cs')
   case first =>
    have hkv : kv = 0 ∨ kv = 1 ∨ kv = 2 ∨ kv = 3 := by omega
    rcases hkv with rfl | rfl | rfl | rfl
    ·clear hk4
     have TZ : Hid (∀ {u S1 S2 F1 D1 c1 d1}, ZS w4 u b wx ob A c2 S1 S2 F1 D1 c1 d1 x → Bk u wx d1 34 ∧ Bk u ob (oc x) 42 ∧ Bk u A (zq5 dw dh (nn : Int) dd dr di db de da) 23 ∧ u.cell? ⟨ob, 1, none⟩ = some (.int .i64 x.p) ∧ u.cell? ⟨ob, 2, none⟩ = some (.int .i64 x.l)) := show _ from fun z => ⟨z.bx, z.op, by rw [← HCF.out]; exact z.cf, (z.op.cell 1).trans rfl, (z.op.cell 2).trans rfl⟩
     obtain ⟨Y, hY⟩ : ∃ Y, wordR c2 x = Y := ⟨_, rfl⟩
     have HWX : Hid (∀ v, Below w4.heap.size w4 v → Calls Tryz.prog 17 #[.agg (oc x), .agg (zq5 dw dh (nn : Int) dd dr di db de da)] v fun e w' => e = .returned (.int .u64 (Y : Int)) ∧ Below v.heap.size v w') := show _ from fun v hv => by
      have := hWD.out v x (XI.out.next hv)
      rw [hY] at this
      exact this
     have hY2 : Y < 18446744073709551616 := hY ▸ wordR_lt _
     clear hWD hY
     obtain ⟨PR, hPR⟩ : ∃ PR, putRt S x.p x.l Y = PR := ⟨_, rfl⟩
     have PDOC : Hid (∀ {u D cs ds}, ZS w4 u b wx ob A c2 S S F D cs ds x → Calls Tryz.prog 16 #[.agg cs, .int .i64 x.p, .int .i64 x.l, .int .u64 (Y : Int)] u fun e w' => ∃ v', e = .returned (.tuple #[v', .int .i64 PR.2]) ∧ DR w' c2 PR.1 v' (fun g => D g ∨ u.heap.size ≤ g) ∧ Below u.heap.size u w') := show _ from fun z => by
      have := rput15 z.dr z.rt.rt.ok z.rt.rt.n x.p x.l Y
      rw [hPR] at this
      exact this
     have PPRG : Hid (∀ {u S2 F D cs ds}, ZS w4 u b wx ob A c2 S S2 F D cs ds x → Calls Tryz.prog 18 (zq10 (some ⟨b, 0, none⟩) x.p x.l (Y : Int)) u fun e w' => ∃ F', e = .returned (.int .i64 PR.2) ∧ Rt w' b c2 PR.1 F' ∧ Gr F u w' F') := show _ from fun z => by
      have := router_put z.rt.rt x.p x.l Y hY2
      rw [hPR] at this
      exact this
     clear hPR hY2
     obtain ⟨S1, er⟩ := PR
     simp only at PDOC PPRG
     go_upto_region 16 with fail
     go_cut [12, 13] from 54 to 65 (fun y z wc => ∃ q cs1, y = .pointer (some ⟨q, 0, none⟩) ∧ z = .int .i64 er ∧ Bk wc q cs1 34 ∧ ZS w4 wc b wx ob A c2 S S1 F (stD F wx) cs1 cs x)
     case first =>
      have Z0 := (Z8.out.next (Below.refl w8.heap.size w8).drew).cut
      have T0 := TZ.out Z0
      have hcs := Z8.out.dr.sz
      have hb8 : w4.heap.size ≤ w8.heap.size := Z8.out.rt.size
      refine wp_region_G (fun V => Bk V wx cs 34 ∧ Bk V ob (oc x) 42 ∧ Bk V A (zq5 dw dh (nn : Int) dd dr di db de da) 23 ∧ V.cell? ⟨ob, 1, none⟩ = some (.int .i64 x.p) ∧ V.cell? ⟨ob, 2, none⟩ = some (.int .i64 x.l)) 14 (by kernel_rfl) ?_
      refine wpAnyG_tk [14] (some 55) (i := 0) rfl rfl (by kernel_rfl) (fun _ _ _ h => h) (yields_bk rfl 34 (.tmp 8) rfl wx rfl _ (fun V hSV => hSV.1) Tryz.underlying34 rfl (by rw [hcs.1]; kernel_rfl)) T0 ?rp0
      try simp only [Act.put, sqa, sqz, sqs]
      refine wpAnyG_tk [14] (some 56) (i := 1) (v := ?vp1) rfl rfl (by kernel_rfl) (fun _ _ _ h => h) (Or.inl ⟨by rfl, ?yp1⟩) T0 ?rp1
      case yp1 => (intro V hSV; obtain ⟨s0, s1, s2, s3, s4⟩ := hSV; go_simp; try with_reducible rfl)
      try simp only [Act.put, sqa, sqz, sqs]
      refine wpAnyG_tk [14] (some 57) (i := 2) (v := ?vp2) rfl rfl (by kernel_rfl) (fun _ _ _ h => h) (Or.inl ⟨by rfl, ?yp2⟩) T0 ?rp2
      case yp2 => (intro V hSV; obtain ⟨s0, s1, s2, s3, s4⟩ := hSV; go_simp; try with_reducible rfl)
      try simp only [Act.put, sqa, sqz, sqs]
      refine wpAnyG_tk [14] (some 58) (i := 3) (v := ?vp3) rfl rfl (by kernel_rfl) (fun _ _ _ h => h) (Or.inl ⟨by rfl, ?yp3⟩) T0 ?rp3
      case yp3 => (intro V hSV; obtain ⟨s0, s1, s2, s3, s4⟩ := hSV; go_simp; try with_reducible rfl)
      try simp only [Act.put, sqa, sqz, sqs]
      refine wpAnyG_tk [14] (some 59) (i := 4) (v := ?vp4) rfl rfl (by kernel_rfl) (fun _ _ _ h => h) (Or.inl ⟨by rfl, ?yp4⟩) T0 ?rp4
      case yp4 => (intro V hSV; obtain ⟨s0, s1, s2, s3, s4⟩ := hSV; go_simp; try with_reducible rfl)
      try simp only [Act.put, sqa, sqz, sqs]
      refine wpAnyG_tk [14] (some 60) (i := 5) rfl rfl (by kernel_rfl) (fun _ _ _ h => h) (yields_bk rfl 42 (.tmp 10) rfl ob rfl _ (fun V hSV => hSV.2.1) Tryz.underlying42 rfl (by kernel_rfl)) T0 ?rp5
      try simp only [Act.put, sqa, sqz, sqs]
      refine wpAnyG_tk [14] (some 61) (i := 6) rfl rfl (by kernel_rfl) (fun _ _ _ h => h) (yields_bk rfl 23 (.tmp 3) rfl A rfl _ (fun V hSV => hSV.2.2.1) Tryz.underlying23 rfl (by kernel_rfl)) T0 ?rp6
      try simp only [Act.put, sqa, sqz, sqs]
      generalize w8.drew = v4 at *
      refine wpAnyG_any [7, 12] (by kernel_rfl) (by rfl) ?_
      intro i9 hi9
      rcases mem2 hi9 with rfl | rfl
      ·clear hi9
       refine wpOpG (i := 7) rfl (fun K9 hK => ?_)
       go_simp
       with_reducible refine (HWX.out _ Z0.rt.below).mono ?_
       rintro e u1 ⟨rfl, bb0⟩
       have Z1 := Z0.next bb0
       have T1 := TZ.out Z1
       refine hK.out _ _ (Or.inr T1) ?_
       clear hK K9
       try simp only [Act.put, sqa, sqz, sqs]
       refine wpAnyG_any [8, 12] (by kernel_rfl) (by rfl) ?_
       intro i9 hi9
       rcases mem2 hi9 with rfl | rfl
       ·clear hi9
        refine wpOpG (i := 8) rfl (fun K9 hK => ?_)
        go_simp
        with_reducible refine (PDOC.out Z1).mono ?_
        rintro e u2 ⟨vv, rfl, dr, bb1⟩
        obtain ⟨cs1, rfl, hs, ho⟩ := dr.agg
        have Z2 := Z1.doc dr bb1
        have T2 := TZ.out Z2
        refine hK.out _ _ (Or.inr T2) ?_
        clear hK K9
        try simp only [Act.put, sqa, sqz, sqs]
        refine wpAnyG_tk [14] (some 54) (i := 9) (v := ?vs09) rfl rfl (by kernel_rfl) (fun _ _ _ h => h) (Or.inl ⟨by rfl, ?ys09⟩) T2 ?rs09
        case ys09 => (intro V hSV; obtain ⟨s0, s1, s2, s3, s4⟩ := hSV; go_simp; try with_reducible rfl)
        try simp only [Act.put, sqa, sqz, sqs]
        refine wpAnyG_tk [14] (some 64) (i := 10) (v := ?vs010) rfl rfl (by kernel_rfl) (fun _ _ _ h => h) (Or.inl ⟨by rfl, ?ys010⟩) T2 ?rs010
        case ys010 => (intro V hSV; obtain ⟨s0, s1, s2, s3, s4⟩ := hSV; go_simp; try with_reducible rfl)
        try simp only [Act.put, sqa, sqz, sqs]
        refine wpAnyG_tk [14] (some 65) (i := 11) (v := ?vs011) rfl rfl (by kernel_rfl) (fun _ _ _ h => h) (Or.inl ⟨by rfl, ?ys011⟩) T2 ?rs011
        case ys011 => (intro V hSV; obtain ⟨s0, s1, s2, s3, s4⟩ := hSV; go_simp; try with_reducible rfl)
        try simp only [Act.put, sqa, sqz, sqs]
        refine wpAnyG_one (i := 12) (by kernel_rfl) rfl (fun K9 hK => ?_)
        go_simp
        have hz0 : v4.heap.size ≤ u2.heap.size := Nat.le_trans (Nat.le_trans (Nat.le_refl _) bb0.size) bb1.size
        have Z3 := Z2.cut.next ((Below.refl u2.heap.size u2).alloc (Nat.le_refl _) (.cells zqZ 34))
        have KB := Bk.new u2 zqZ 34
        have nq : w4.heap.size ≤ u2.heap.size ∧ ¬ F u2.heap.size ∧ wx ≠ u2.heap.size ∧ ob ≠ u2.heap.size ∧ A ≠ u2.heap.size := ⟨Z2.rt.size, fun h => by have := Z2.lt _ h; omega, by have := Z2.bx.lt; omega, by have := Z2.op.lt; omega, by have := Z2.cf.lt; omega⟩
        have T3 := TZ.out Z3
        refine hK.out _ _ (Or.inr T3) ?_
        clear hK K9
        try simp only [Act.put, sqa, sqz, sqs]
        generalize hqq : u2.heap.size = qx at *
        generalize u2.alloc (.cells zqZ 34) = u3 at *
        refine wpAnyG_one (i := 13) (by kernel_rfl) rfl (fun K9 hK => ?_)
        refine step_store_bk rfl 34 (.tmp 12) (.tmp 64) rfl qx cs1 rfl rfl KB (by rw [hs]; kernel_rfl) (by rw [hs]; rfl) ho ?_
        intro uF sF oF
        have ZF := (Z3.box oF (fun h => by have h2 : qx < _ := h.2; omega) nq.2.1 nq.1 nq.2.2.1 nq.2.2.2.1 nq.2.2.2.2).std
        have TF := TZ.out ZF
        refine hK.out _ _ (Or.inr TF) ?_
        clear hK K9
        try simp only [Act.put, sqa]
        refine wpAnyG_one (i := 14) (by kernel_rfl) rfl (fun K9 hK => ?_)
        go_simp
        refine hK.out _ _ (Or.inl (by kernel_rfl)) ?_
        clear hK K9
        try simp only [Act.put, sqa, sqz, sqs]
        refine wpAnyG_done (by kernel_rfl) ?_ _
        go_wp2_with fail
        go_meet
        exact ⟨qx, cs1, rfl, rfl, sF, ZF⟩
       ·clear hi9
        refine wpOpG (i := 12) rfl (fun K9 hK => ?_)
        go_simp
        have hz0 : v4.heap.size ≤ u1.heap.size := Nat.le_trans (Nat.le_refl _) bb0.size
        have Z2 := Z1.next ((Below.refl u1.heap.size u1).alloc (Nat.le_refl _) (.cells zqZ 34))
        have KB := Bk.new u1 zqZ 34
        have nq : w4.heap.size ≤ u1.heap.size ∧ ¬ F u1.heap.size ∧ wx ≠ u1.heap.size ∧ ob ≠ u1.heap.size ∧ A ≠ u1.heap.size := ⟨Z1.rt.size, fun h => by have := Z1.lt _ h; omega, by have := Z1.bx.lt; omega, by have := Z1.op.lt; omega, by have := Z1.cf.lt; omega⟩
        have T2 := TZ.out Z2
        refine hK.out _ _ (Or.inr T2) ?_
        clear hK K9
        try simp only [Act.put, sqa, sqz, sqs]
        generalize hqq : u1.heap.size = qx at *
        generalize u1.alloc (.cells zqZ 34) = u2 at *
        refine wpAnyG_one (i := 8) (by kernel_rfl) rfl (fun K9 hK => ?_)
        go_simp
        with_reducible refine (PDOC.out Z2).mono ?_
        rintro e u3 ⟨vv, rfl, dr, bb2⟩
        obtain ⟨cs1, rfl, hs, ho⟩ := dr.agg
        have Z3 := Z2.doc dr bb2
        have KB3 := KB.next bb2
        have hqu := KB.lt
        have T3 := TZ.out Z3
        refine hK.out _ _ (Or.inr T3) ?_
        clear hK K9
        try simp only [Act.put, sqa, sqz, sqs]
        refine wpAnyG_tk [14] (some 54) (i := 9) (v := ?vs19) rfl rfl (by kernel_rfl) (fun _ _ _ h => h) (Or.inl ⟨by rfl, ?ys19⟩) T3 ?rs19
        case ys19 => (intro V hSV; obtain ⟨s0, s1, s2, s3, s4⟩ := hSV; go_simp; try with_reducible rfl)
        try simp only [Act.put, sqa, sqz, sqs]
        refine wpAnyG_tk [14] (some 64) (i := 10) (v := ?vs110) rfl rfl (by kernel_rfl) (fun _ _ _ h => h) (Or.inl ⟨by rfl, ?ys110⟩) T3 ?rs110
        case ys110 => (intro V hSV; obtain ⟨s0, s1, s2, s3, s4⟩ := hSV; go_simp; try with_reducible rfl)
        try simp only [Act.put, sqa, sqz, sqs]
        refine wpAnyG_tk [14] (some 65) (i := 11) (v := ?vs111) rfl rfl (by kernel_rfl) (fun _ _ _ h => h) (Or.inl ⟨by rfl, ?ys111⟩) T3 ?rs111
        case ys111 => (intro V hSV; obtain ⟨s0, s1, s2, s3, s4⟩ := hSV; go_simp; try with_reducible rfl)
        try simp only [Act.put, sqa, sqz, sqs]
        refine wpAnyG_one (i := 13) (by kernel_rfl) rfl (fun K9 hK => ?_)
        refine step_store_bk rfl 34 (.tmp 12) (.tmp 64) rfl qx cs1 rfl rfl KB3 (by rw [hs]; kernel_rfl) (by rw [hs]; rfl) ho ?_
        intro uF sF oF
        have ZF := (Z3.box oF (fun h => Or.elim h (fun h1 => by have h2 : qx < _ := h1.2; omega) (fun h1 => by have h2 : _ ≤ qx := h1; omega)) nq.2.1 nq.1 nq.2.2.1 nq.2.2.2.1 nq.2.2.2.2).std
        have TF := TZ.out ZF
        refine hK.out _ _ (Or.inr TF) ?_
        clear hK K9
        try simp only [Act.put, sqa]
        refine wpAnyG_one (i := 14) (by kernel_rfl) rfl (fun K9 hK => ?_)
        go_simp
        refine hK.out _ _ (Or.inl (by kernel_rfl)) ?_
        clear hK K9
        try simp only [Act.put, sqa, sqz, sqs]
        refine wpAnyG_done (by kernel_rfl) ?_ _
        go_wp2_with fail
        go_meet
        exact ⟨qx, cs1, rfl, rfl, sF, ZF⟩
      ·clear hi9
       refine wpOpG (i := 12) rfl (fun K9 hK => ?_)
       go_simp
       have hz0 : v4.heap.size ≤ v4.heap.size := Nat.le_refl _
       have Z1 := Z0.next ((Below.refl v4.heap.size v4).alloc (Nat.le_refl _) (.cells zqZ 34))
       have KB := Bk.new v4 zqZ 34
       have nq : w4.heap.size ≤ v4.heap.size ∧ ¬ F v4.heap.size ∧ wx ≠ v4.heap.size ∧ ob ≠ v4.heap.size ∧ A ≠ v4.heap.size := ⟨Z0.rt.size, fun h => by have := Z0.lt _ h; omega, by have := Z0.bx.lt; omega, by have := Z0.op.lt; omega, by have := Z0.cf.lt; omega⟩
       have T1 := TZ.out Z1
       refine hK.out _ _ (Or.inr T1) ?_
       clear hK K9
       try simp only [Act.put, sqa, sqz, sqs]
       generalize hqq : v4.heap.size = qx at *
       generalize v4.alloc (.cells zqZ 34) = u1 at *
       refine wpAnyG_one (i := 7) (by kernel_rfl) rfl (fun K9 hK => ?_)
       go_simp
       with_reducible refine (HWX.out _ Z1.rt.below).mono ?_
       rintro e u2 ⟨rfl, bb1⟩
       have Z2 := Z1.next bb1
       have KB2 := KB.next bb1
       have T2 := TZ.out Z2
       refine hK.out _ _ (Or.inr T2) ?_
       clear hK K9
       try simp only [Act.put, sqa, sqz, sqs]
       refine wpAnyG_one (i := 8) (by kernel_rfl) rfl (fun K9 hK => ?_)
       go_simp
       with_reducible refine (PDOC.out Z2).mono ?_
       rintro e u3 ⟨vv, rfl, dr, bb2⟩
       obtain ⟨cs1, rfl, hs, ho⟩ := dr.agg
       have Z3 := Z2.doc dr bb2
       have KB3 := KB2.next bb2
       have hqu := KB2.lt
       have T3 := TZ.out Z3
       refine hK.out _ _ (Or.inr T3) ?_
       clear hK K9
       try simp only [Act.put, sqa, sqz, sqs]
       refine wpAnyG_tk [14] (some 54) (i := 9) (v := ?vs29) rfl rfl (by kernel_rfl) (fun _ _ _ h => h) (Or.inl ⟨by rfl, ?ys29⟩) T3 ?rs29
       case ys29 => (intro V hSV; obtain ⟨s0, s1, s2, s3, s4⟩ := hSV; go_simp; try with_reducible rfl)
       try simp only [Act.put, sqa, sqz, sqs]
       refine wpAnyG_tk [14] (some 64) (i := 10) (v := ?vs210) rfl rfl (by kernel_rfl) (fun _ _ _ h => h) (Or.inl ⟨by rfl, ?ys210⟩) T3 ?rs210
       case ys210 => (intro V hSV; obtain ⟨s0, s1, s2, s3, s4⟩ := hSV; go_simp; try with_reducible rfl)
       try simp only [Act.put, sqa, sqz, sqs]
       refine wpAnyG_tk [14] (some 65) (i := 11) (v := ?vs211) rfl rfl (by kernel_rfl) (fun _ _ _ h => h) (Or.inl ⟨by rfl, ?ys211⟩) T3 ?rs211
       case ys211 => (intro V hSV; obtain ⟨s0, s1, s2, s3, s4⟩ := hSV; go_simp; try with_reducible rfl)
       try simp only [Act.put, sqa, sqz, sqs]
       refine wpAnyG_one (i := 13) (by kernel_rfl) rfl (fun K9 hK => ?_)
       refine step_store_bk rfl 34 (.tmp 12) (.tmp 64) rfl qx cs1 rfl rfl KB3 (by rw [hs]; kernel_rfl) (by rw [hs]; rfl) ho ?_
       intro uF sF oF
       have ZF := (Z3.box oF (fun h => Or.elim h (fun h1 => by have h2 : qx < _ := h1.2; omega) (fun h1 => by have h2 : _ ≤ qx := h1; omega)) nq.2.1 nq.1 nq.2.2.1 nq.2.2.2.1 nq.2.2.2.2).std
       have TF := TZ.out ZF
       refine hK.out _ _ (Or.inr TF) ?_
       clear hK K9
       try simp only [Act.put, sqa]
       refine wpAnyG_one (i := 14) (by kernel_rfl) rfl (fun K9 hK => ?_)
       go_simp
       refine hK.out _ _ (Or.inl (by kernel_rfl)) ?_
       clear hK K9
       try simp only [Act.put, sqa, sqz, sqs]
       refine wpAnyG_done (by kernel_rfl) ?_ _
       go_wp2_with fail
       go_meet
       exact ⟨qx, cs1, rfl, rfl, sF, ZF⟩
     case rest =>
      obtain ⟨q, cs1, rfl, rfl, bq', z1'⟩ := hcut
      have BQ : Hid (Bk wc q cs1 34) := bq'
      have Z1 : Hid _ := z1'
      have hcs := Z8.out.dr.sz
      have hcs1 := Z1.out.dr.sz
      clear bq' z1'
      go_upto_region 18 with (first
       | (refine wpList_load_bk rfl 34 (.tmp 12) rfl q rfl _ BQ.out Tryz.underlying34 rfl (by rw [hcs1.1]; kernel_rfl) ?_)
       | (refine wpList_store_bk rfl 34 (.tmp 8) (.tmp 66) rfl wx cs1 rfl rfl Z1.out.bx (by rw [hcs1.1]; kernel_rfl) (by rw [hcs.1, hcs1.1]) hcs1.2 ?_; intro w9 sw9 ow9))
      have Z2 : ZS w4 w9 b wx ob A c2 S S1 F (stD F wx) cs1 cs1 x := Z1.out.put ow9 sw9
      have Z3 := Z2.next (Below.refl w9.heap.size w9).drew
      have T0 := TZ.out Z3
      clear Z1 Z2 BQ Z8 ow9 sw9
      refine wp_region_G (fun V => Bk V wx cs1 34 ∧ Bk V ob (oc x) 42 ∧ Bk V A (zq5 dw dh (nn : Int) dd dr di db de da) 23 ∧ V.cell? ⟨ob, 1, none⟩ = some (.int .i64 x.p) ∧ V.cell? ⟨ob, 2, none⟩ = some (.int .i64 x.l)) 11 (by kernel_rfl) ?_
      refine wpAnyG_tk [11] (some 67) (i := 0) (v := ?vq0) rfl rfl (by kernel_rfl) (fun _ _ _ h => h) (Or.inl ⟨by rfl, ?yq0⟩) T0 ?rq0
      case yq0 => (intro V hSV; obtain ⟨s0, s1, s2, s3, s4⟩ := hSV; go_simp; try with_reducible rfl)
      try simp only [Act.put, sqa, sqz, sqs]
      refine wpAnyG_tk [11] (some 68) (i := 1) (v := ?vq1) rfl rfl (by kernel_rfl) (fun _ _ _ h => h) (Or.inl ⟨by rfl, ?yq1⟩) T0 ?rq1
      case yq1 => (intro V hSV; obtain ⟨s0, s1, s2, s3, s4⟩ := hSV; go_simp; try with_reducible rfl)
      try simp only [Act.put, sqa, sqz, sqs]
      refine wpAnyG_tk [11] (some 69) (i := 2) (v := ?vq2) rfl rfl (by kernel_rfl) (fun _ _ _ h => h) (Or.inl ⟨by rfl, ?yq2⟩) T0 ?rq2
      case yq2 => (intro V hSV; obtain ⟨s0, s1, s2, s3, s4⟩ := hSV; go_simp; try with_reducible rfl)
      try simp only [Act.put, sqa, sqz, sqs]
      refine wpAnyG_tk [11] (some 70) (i := 3) (v := ?vq3) rfl rfl (by kernel_rfl) (fun _ _ _ h => h) (Or.inl ⟨by rfl, ?yq3⟩) T0 ?rq3
      case yq3 => (intro V hSV; obtain ⟨s0, s1, s2, s3, s4⟩ := hSV; go_simp; try with_reducible rfl)
      try simp only [Act.put, sqa, sqz, sqs]
      refine wpAnyG_tk [11] (some 71) (i := 4) (v := ?vq4) rfl rfl (by kernel_rfl) (fun _ _ _ h => h) (Or.inl ⟨by rfl, ?yq4⟩) T0 ?rq4
      case yq4 => (intro V hSV; obtain ⟨s0, s1, s2, s3, s4⟩ := hSV; go_simp; try with_reducible rfl)
      try simp only [Act.put, sqa, sqz, sqs]
      refine wpAnyG_tk [11] (some 76) (i := 9) (v := ?vq9) rfl rfl (by kernel_rfl) (fun _ _ _ h => h) (Or.inl ⟨by rfl, ?yq9⟩) T0 ?rq9
      case yq9 => (intro V hSV; obtain ⟨s0, s1, s2, s3, s4⟩ := hSV; go_simp; try with_reducible rfl)
      try simp only [Act.put, sqa, sqz, sqs]
      refine wpAnyG_tk [11] (some 72) (i := 5) rfl rfl (by kernel_rfl) (fun _ _ _ h => h) (yields_bk rfl 42 (.tmp 10) rfl ob rfl _ (fun V hSV => hSV.2.1) Tryz.underlying42 rfl (by kernel_rfl)) T0 ?rq5
      try simp only [Act.put, sqa, sqz, sqs]
      refine wpAnyG_tk [11] (some 73) (i := 6) rfl rfl (by kernel_rfl) (fun _ _ _ h => h) (yields_bk rfl 23 (.tmp 3) rfl A rfl _ (fun V hSV => hSV.2.2.1) Tryz.underlying23 rfl (by kernel_rfl)) T0 ?rq6
      try simp only [Act.put, sqa, sqz, sqs]
      generalize w9.drew = v4 at *
      refine wpAnyG_one (i := 7) (by kernel_rfl) rfl (fun K hK => ?_)
      go_simp
      with_reducible refine (HWX.out _ Z3.rt.below).mono ?_
      rintro e u1 ⟨rfl, bb1⟩
      have Z4 := Z3.next bb1
      have T1 := TZ.out Z4
      refine hK.out _ _ (Or.inr T1) ?_
      clear hK K
      try simp only [Act.put, sqa, sqz, sqs]
      refine wpAnyG_one (i := 8) (by kernel_rfl) rfl (fun K hK => ?_)
      go_simp
      with_reducible refine (PPRG.out Z4).mono ?_
      rintro e u2 ⟨F1, rfl, nb, gb⟩
      have Z5 := Z4.prog nb gb
      have T2 := TZ.out Z5
      refine hK.out _ _ (Or.inr T2) ?_
      clear hK K
      try simp only [Act.put, sqa, sqz, sqs]
      refine wpAnyG_tk [11] (some 77) (i := 10) (v := ?vq10) rfl rfl (by kernel_rfl) (fun _ _ _ h => h) (Or.inl ⟨by rfl, ?yq10⟩) T2 ?rq10
      case yq10 => (intro V hSV; obtain ⟨s0, s1, s2, s3, s4⟩ := hSV; go_simp; try with_reducible rfl)
      try simp only [Act.put, sqa, sqz, sqs]
      refine wpAnyG_one (i := 11) (by kernel_rfl) rfl (fun K hK => ?_)
      go_simp
      refine hK.out _ _ (Or.inl (by kernel_rfl)) ?_
      clear hK K
      try simp only [Act.put, sqa, sqz, sqs]
      refine wpAnyG_done (by kernel_rfl) ?_ _
      go_wp2_with fail
      go_meet
      exact ⟨by simp, S1, F1, cs1, Z5.ps⟩
    ·clear hk4 hWD
     obtain ⟨PR, hPR⟩ : ∃ PR, findRt (telR c2 S.node) S x.p x.l x.n = PR := ⟨_, rfl⟩
     have PDOC : Hid (∀ {u D cs ds}, ZS w4 u b wx ob A c2 S S F D cs ds x → Calls Tryz.prog 19 #[.agg cs, .int .i64 x.p, .int .i64 x.l, .int .i64 x.n] u fun e w' => ∃ v', e = .returned (.tuple #[v', .bool PR.2]) ∧ DR w' c2 PR.1 v' (fun g => D g ∨ u.heap.size ≤ g) ∧ Below u.heap.size u w') := show _ from fun z => by
      have := rfind15 z.dr z.rt.rt.ok z.rt.rt.n x.p x.l x.n XI.out.n1 XI.out.n2
      rw [hPR] at this
      exact this
     have PPRG : Hid (∀ {u S2 F D cs ds}, ZS w4 u b wx ob A c2 S S2 F D cs ds x → Calls Tryz.prog 20 (zq11 (some ⟨b, 0, none⟩) x.p x.l x.n) u fun e w' => ∃ F', e = .returned (.bool PR.2) ∧ Rt w' b c2 PR.1 F' ∧ Gr F u w' F') := show _ from fun z => by
      have := router_find z.rt.rt (z.rt.tabs HT4.out.1) (z.rt.steps HT4.out.2) x.p x.l x.n XI.out.n1 XI.out.n2
      rw [hPR] at this
      exact this
     clear hPR
     obtain ⟨S1, er⟩ := PR
     simp only at PDOC PPRG
     have hcs := Z8.out.dr.sz
     have y1 : w8.cell? ⟨ob, 1, none⟩ = some (.int .i64 x.p) := (Z8.out.op.cell 1).trans rfl
     have y2 : w8.cell? ⟨ob, 2, none⟩ = some (.int .i64 x.l) := (Z8.out.op.cell 2).trans rfl
     have y3 : w8.cell? ⟨ob, 3, none⟩ = some (.int .i64 x.n) := (Z8.out.op.cell 3).trans rfl
     go_upto_region 21 with (first
      | (refine wpList_load_bk rfl 34 (.tmp 8) rfl wx rfl _ Z8.out.bx Tryz.underlying34 rfl (by rw [hcs.1]; kernel_rfl) ?_)
      | (go_at_call 19; with_reducible refine (PDOC.out Z8.out).mono ?_; rintro e w2 ⟨vv, rfl, dr, b2⟩; obtain ⟨cs1, rfl, hs, ho⟩ := dr.agg)
      | (refine wpList_store_bk rfl 34 (.tmp 14) (.tmp 89) rfl w2.heap.size cs1 rfl rfl (Bk.new _ _ _) (by rw [hs]; kernel_rfl) (by rw [hs]; rfl) ho ?_; intro w3 sw3 ow3))
     have Z1 : Hid _ := (Z8.out.doc dr b2).fresh ow3
     have BQ : Hid (Bk w3 w2.heap.size cs1 34) := sw3
     clear Z8 dr b2 ow3 sw3 y1 y2 y3 PDOC
     generalize w2.heap.size = q at *
     go_upto_region 22 with (first
      | (refine wpList_load_bk rfl 34 (.tmp 14) rfl q rfl _ BQ.out Tryz.underlying34 rfl (by rw [hs]; kernel_rfl) ?_)
      | (refine wpList_store_bk rfl 34 (.tmp 8) (.tmp 91) rfl wx cs1 rfl rfl Z1.out.bx (by rw [hs]; kernel_rfl) (by rw [hcs.1, hs]) ho ?_; intro w9 sw9 ow9))
     have Z2 : Hid _ := Z1.out.put ow9 sw9
     clear Z1 BQ ow9 sw9
     have y1 : w9.cell? ⟨ob, 1, none⟩ = some (.int .i64 x.p) := (Z2.out.op.cell 1).trans rfl
     have y2 : w9.cell? ⟨ob, 2, none⟩ = some (.int .i64 x.l) := (Z2.out.op.cell 2).trans rfl
     have y3 : w9.cell? ⟨ob, 3, none⟩ = some (.int .i64 x.n) := (Z2.out.op.cell 3).trans rfl
     go_wp2_with (go_at_call 20; with_reducible refine (PPRG.out Z2.out).mono ?_; rintro e wb ⟨F1, rfl, nb, gb⟩)
     go_meet
     exact ⟨by simp, S1, F1, cs1, (Z2.out.prog nb gb).ps⟩
    ·clear hk4 hWD
     obtain ⟨PR, hPR⟩ : ∃ PR, giveRt (clsR c2) S x.p x.l = PR := ⟨_, rfl⟩
     have PDOC : Hid (∀ {u D cs ds}, ZS w4 u b wx ob A c2 S S F D cs ds x → Calls Tryz.prog 21 #[.agg cs, .int .i64 x.p, .int .i64 x.l] u fun e w' => ∃ v', e = .returned (.tuple #[v', .bool PR.2]) ∧ DR w' c2 PR.1 v' (fun g => D g ∨ u.heap.size ≤ g) ∧ Below u.heap.size u w') := show _ from fun z => by
      have := rgive15 z.dr z.rt.rt.ok z.rt.rt.n z.rt.rt.chk x.p x.l
      rw [hPR] at this
      exact this
     have PPRG : Hid (∀ {u S2 F D cs ds}, ZS w4 u b wx ob A c2 S S2 F D cs ds x → Calls Tryz.prog 22 #[.pointer (some ⟨b, 0, none⟩), .int .i64 x.p, .int .i64 x.l] u fun e w' => ∃ F', e = .returned (.bool PR.2) ∧ Rt w' b c2 PR.1 F' ∧ Gr F u w' F') := show _ from fun z => by
      have := router_give z.rt.rt x.p x.l
      rw [hPR] at this
      exact this
     clear hPR
     obtain ⟨S1, er⟩ := PR
     simp only at PDOC PPRG
     have hcs := Z8.out.dr.sz
     have y1 : w8.cell? ⟨ob, 1, none⟩ = some (.int .i64 x.p) := (Z8.out.op.cell 1).trans rfl
     have y2 : w8.cell? ⟨ob, 2, none⟩ = some (.int .i64 x.l) := (Z8.out.op.cell 2).trans rfl
     go_upto_region 25 with (first
      | (refine wpList_load_bk rfl 34 (.tmp 8) rfl wx rfl _ Z8.out.bx Tryz.underlying34 rfl (by rw [hcs.1]; kernel_rfl) ?_)
      | (go_at_call 21; with_reducible refine (PDOC.out Z8.out).mono ?_; rintro e w2 ⟨vv, rfl, dr, b2⟩; obtain ⟨cs1, rfl, hs, ho⟩ := dr.agg)
      | (refine wpList_store_bk rfl 34 (.tmp 16) (.tmp 111) rfl w2.heap.size cs1 rfl rfl (Bk.new _ _ _) (by rw [hs]; kernel_rfl) (by rw [hs]; rfl) ho ?_; intro w3 sw3 ow3))
     have Z1 : Hid _ := (Z8.out.doc dr b2).fresh ow3
     have BQ : Hid (Bk w3 w2.heap.size cs1 34) := sw3
     clear Z8 dr b2 ow3 sw3 y1 y2 PDOC
     generalize w2.heap.size = q at *
     go_upto_region 26 with (first
      | (refine wpList_load_bk rfl 34 (.tmp 16) rfl q rfl _ BQ.out Tryz.underlying34 rfl (by rw [hs]; kernel_rfl) ?_)
      | (refine wpList_store_bk rfl 34 (.tmp 8) (.tmp 113) rfl wx cs1 rfl rfl Z1.out.bx (by rw [hs]; kernel_rfl) (by rw [hcs.1, hs]) ho ?_; intro w9 sw9 ow9))
     have Z2 : Hid _ := Z1.out.put ow9 sw9
     clear Z1 BQ ow9 sw9
     have y1 : w9.cell? ⟨ob, 1, none⟩ = some (.int .i64 x.p) := (Z2.out.op.cell 1).trans rfl
     have y2 : w9.cell? ⟨ob, 2, none⟩ = some (.int .i64 x.l) := (Z2.out.op.cell 2).trans rfl
     go_wp2_with (go_at_call 22; with_reducible refine (PPRG.out Z2.out).mono ?_; rintro e wb ⟨F1, rfl, nb, gb⟩)
     go_meet
     exact ⟨by simp, S1, F1, cs1, (Z2.out.prog nb gb).ps⟩
    ·clear hk4 hWD
     obtain ⟨MR, hMR⟩ : ∃ MR, moveRt S x.p (mayB x.my) = MR := ⟨_, rfl⟩
     have PDOC : Hid (∀ {u D cs ds}, ZS w4 u b wx ob A c2 S S F D cs ds x → Calls Tryz.prog 23 #[.agg cs, .int .i64 x.p, .slice x.ma x.my.length x.mcap] u fun e w' => ∃ v', e = .returned (.tuple #[v', .agg (mvc MR.2.1 (MR.2.2.1 / S.n) (MR.2.2.1 % S.n)), .bool MR.2.2.2]) ∧ DR w' c2 MR.1 v' (fun g => D g ∨ u.heap.size ≤ g) ∧ Below u.heap.size u w') := show _ from fun z => by
      have := rmove15 z.dr z.rt.rt.ok z.rt.rt.n x.p x.my x.ma x.mcap (XI.out.mr.below z.rt.below)
      rw [hMR] at this
      exact this
     have PPRG : Hid (∀ {u S2 F D cs ds mb}, ZS w4 u b wx ob A c2 S S2 F D cs ds x → May u 72 #[.pointer (some ⟨mb, 0, none⟩)] (mayB x.my) → Calls Tryz.prog 24 #[.pointer (some ⟨b, 0, none⟩), .int .i64 x.p, .func (.func 72) #[] #[.pointer (some ⟨mb, 0, none⟩)]] u fun e w' => ∃ F', e = .returned (.tuple #[.agg (mvc MR.2.1 (MR.2.2.1 / S.n) (MR.2.2.1 % S.n)), .bool MR.2.2.2]) ∧ Rt w' b c2 MR.1 F' ∧ Gr F u w' F') := show _ from fun z hy => by
      have := router_move z.rt.rt x.p _ _ _ hy
      rw [hMR] at this
      exact this
     clear hMR
     obtain ⟨S1, o9, k9, is⟩ := MR
     simp only at PDOC PPRG
     generalize k9 / S.n = kq at *
     generalize k9 % S.n = kr at *
     simp only [mvc] at PDOC PPRG
     have hcs := Z8.out.dr.sz
     have y1 : w8.cell? ⟨ob, 1, none⟩ = some (.int .i64 x.p) := (Z8.out.op.cell 1).trans rfl
     have y8 : w8.cell? ⟨ob, 8, none⟩ = some (.slice x.ma x.my.length x.mcap) := (Z8.out.op.cell 8).trans rfl
     go_upto_region 29 with (first
      | (refine wpList_load_bk rfl 34 (.tmp 8) rfl wx rfl _ Z8.out.bx Tryz.underlying34 rfl (by rw [hcs.1]; kernel_rfl) ?_)
      | (go_at_call 23; with_reducible refine (PDOC.out Z8.out).mono ?_; rintro e w2 ⟨vv, rfl, dr, b2⟩; obtain ⟨cs1, rfl, hs, ho⟩ := dr.agg)
      | (refine wpList_store_bk rfl 34 (.tmp 18) (.tmp 131) rfl w2.heap.size cs1 rfl rfl (two_new _ _ _ _ _).1 (by rw [hs]; kernel_rfl) (by rw [hs]; rfl) ho ?_; intro w3 sw3 ow3)
      | (refine wpList_store_bk rfl 58 (.tmp 19) (.tmp 132) rfl (w2.heap.size + 1) (zq1 o9.port o9.lane (o9.word : Int) o9.copy o9.ends (kq : Int) (kr : Int)) rfl rfl ((two_new w2 _ _ _ _).2.on ow3 (by omega)) (by kernel_rfl) rfl rfl ?_; intro w5 sw5 ow5))
     have Z1 : Hid _ := (Z8.out.doc dr b2).fresh2 ow3 ow5
     have BQ : Hid (Bk w5 w2.heap.size cs1 34) := sw3.on ow5 (by omega)
     have B19 : Hid (Bk w5 (w2.heap.size + 1) (zq1 o9.port o9.lane (o9.word : Int) o9.copy o9.ends (kq : Int) (kr : Int)) 58) := sw5
     have N19 : Hid (¬ F (w2.heap.size + 1)) := show ¬ _ from fun h => by have := (Z8.out.next b2).lt _ h; omega
     clear Z8 dr b2 ow3 sw3 ow5 sw5 y1 y8 PDOC
     generalize w2.heap.size + 1 = q9 at *
     generalize w2.heap.size = q at *
     go_upto_region 30 with (first
      | (refine wpList_load_bk rfl 34 (.tmp 18) rfl q rfl _ BQ.out Tryz.underlying34 rfl (by rw [hs]; kernel_rfl) ?_)
      | (refine wpList_store_bk rfl 34 (.tmp 8) (.tmp 134) rfl wx cs1 rfl rfl Z1.out.bx (by rw [hs]; kernel_rfl) (by rw [hcs.1, hs]) ho ?_; intro w9 sw9 ow9))
     have Z2 : Hid _ := Z1.out.put ow9 sw9
     have C19 : Hid (Bk w9 q9 (zq1 o9.port o9.lane (o9.word : Int) o9.copy o9.ends (kq : Int) (kr : Int)) 58) := B19.out.on ow9 (bk_ne B19.out Z1.out.bx (by decide))
     clear Z1 BQ ow9 sw9 B19
     have TM : Hid (∀ {u S1 S2 F1 D1 c1 d1}, ZS w4 u b wx ob A c2 S1 S2 F1 D1 c1 d1 x → Bk u ob (oc x) 42 ∧ u.cell? ⟨ob, 1, none⟩ = some (.int .i64 x.p)) := show _ from fun z => ⟨z.op, (z.op.cell 1).trans rfl⟩
     try simp only [Act.put, sqa, sqz, sqs]
     go_cut [21, 22] from 135 to 143 (fun y z wc => ∃ q F1, y = .pointer (some ⟨q, 0, none⟩) ∧ z = .bool is ∧ Bk wc q (zq1 o9.port o9.lane (o9.word : Int) o9.copy o9.ends (kq : Int) (kr : Int)) 63 ∧ Bk wc q9 (zq1 o9.port o9.lane (o9.word : Int) o9.copy o9.ends (kq : Int) (kr : Int)) 58 ∧ ZS w4 wc b wx ob A c2 S1 S1 F1 (stD F1 wx) cs1 cs1 x)
     case first =>
      have Z0 := Z2.out.next (Below.refl w9.heap.size w9).drew
      have T0 := TM.out Z0
      have E0 : Bk w9.drew q9 (zq1 o9.port o9.lane (o9.word : Int) o9.copy o9.ends (kq : Int) (kr : Int)) 58 := C19.out.next (Below.refl w9.heap.size w9).drew
      have n0 := N19.out
      clear Z2 C19 N19
      refine wp_region_G (fun V => Bk V ob (oc x) 42 ∧ V.cell? ⟨ob, 1, none⟩ = some (.int .i64 x.p)) 11 (by kernel_rfl) ?_
      refine wpAnyG_tk [11] (some 136) (i := 0) (v := ?vw0) rfl rfl (by kernel_rfl) (fun _ _ _ h => h) (Or.inl ⟨by rfl, ?yw0⟩) T0 ?rw0
      case yw0 => (intro V hSV; obtain ⟨s0, s1⟩ := hSV; go_simp; try with_reducible rfl)
      try simp only [Act.put, sqa, sqz, sqs]
      refine wpAnyG_tk [11] (some 137) (i := 1) (v := ?vw1) rfl rfl (by kernel_rfl) (fun _ _ _ h => h) (Or.inl ⟨by rfl, ?yw1⟩) T0 ?rw1
      case yw1 => (intro V hSV; obtain ⟨s0, s1⟩ := hSV; go_simp; try with_reducible rfl)
      try simp only [Act.put, sqa, sqz, sqs]
      refine wpAnyG_tk [11] (some 138) (i := 2) (v := ?vw2) rfl rfl (by kernel_rfl) (fun _ _ _ h => h) (Or.inl ⟨by rfl, ?yw2⟩) T0 ?rw2
      case yw2 => (intro V hSV; obtain ⟨s0, s1⟩ := hSV; go_simp; try with_reducible rfl)
      try simp only [Act.put, sqa, sqz, sqs]
      refine wpAnyG_tk [11] (some 139) (i := 3) rfl rfl (by kernel_rfl) (fun _ _ _ h => h) (yields_bk rfl 42 (.tmp 10) rfl ob rfl _ (fun V hSV => hSV.1) Tryz.underlying42 rfl (by kernel_rfl)) T0 ?rw3
      try simp only [Act.put, sqa, sqz, sqs]
      generalize w9.drew = v4 at *
      refine wpAnyG_any [4, 9] (by kernel_rfl) (by rfl) ?_
      intro i9 hi9
      rcases mem2 hi9 with rfl | rfl
      ·clear hi9
       refine wpOpG (i := 4) rfl (fun K9 hK => ?_)
       go_simp
       with_reducible refine (may_any x _ (XI.out.next Z0.rt.below)).mono ?_
       rintro e u1 ⟨mb, rfl, hy, bb0⟩
       have Z1 := Z0.next bb0
       have E1 := E0.next bb0
       have T1 := TM.out Z1
       refine hK.out _ _ (Or.inr T1) ?_
       clear hK K9
       try simp only [Act.put, sqa, sqz, sqs]
       refine wpAnyG_any [5, 9] (by kernel_rfl) (by rfl) ?_
       intro i9 hi9
       rcases mem2 hi9 with rfl | rfl
       ·clear hi9
        refine wpOpG (i := 5) rfl (fun K9 hK => ?_)
        go_simp
        with_reducible refine (PPRG.out Z1 hy).mono ?_
        rintro e u2 ⟨F1, rfl, nb, gb⟩
        have Z2 := Z1.prog nb gb
        have E2 := E1.gr gb n0
        have T2 := TM.out Z2
        refine hK.out _ _ (Or.inr T2) ?_
        clear hK K9
        try simp only [Act.put, sqa, sqz, sqs]
        refine wpAnyG_tk [11] (some 135) (i := 6) (v := ?vv36) rfl rfl (by kernel_rfl) (fun _ _ _ h => h) (Or.inl ⟨by rfl, ?yv36⟩) T2 ?rv36
        case yv36 => (intro V hSV; obtain ⟨s0, s1⟩ := hSV; go_simp; try with_reducible rfl)
        try simp only [Act.put, sqa, sqz, sqs]
        refine wpAnyG_tk [11] (some 142) (i := 7) (v := ?vv37) rfl rfl (by kernel_rfl) (fun _ _ _ h => h) (Or.inl ⟨by rfl, ?yv37⟩) T2 ?rv37
        case yv37 => (intro V hSV; obtain ⟨s0, s1⟩ := hSV; go_simp; try with_reducible rfl)
        try simp only [Act.put, sqa, sqz, sqs]
        refine wpAnyG_tk [11] (some 143) (i := 8) (v := ?vv38) rfl rfl (by kernel_rfl) (fun _ _ _ h => h) (Or.inl ⟨by rfl, ?yv38⟩) T2 ?rv38
        case yv38 => (intro V hSV; obtain ⟨s0, s1⟩ := hSV; go_simp; try with_reducible rfl)
        try simp only [Act.put, sqa, sqz, sqs]
        refine wpAnyG_one (i := 9) (by kernel_rfl) rfl (fun K9 hK => ?_)
        go_simp
        have Z3 := Z2.cut.next ((Below.refl u2.heap.size u2).alloc (Nat.le_refl _) (.cells (zq1 0 0 0 false false 0 0) 63))
        have E3 := E2.next ((Below.refl u2.heap.size u2).alloc (Nat.le_refl _) (.cells (zq1 0 0 0 false false 0 0) 63))
        have KB := Bk.new u2 (zq1 0 0 0 false false 0 0) 63
        have nq : w4.heap.size ≤ u2.heap.size ∧ ¬ F1 u2.heap.size ∧ wx ≠ u2.heap.size ∧ ob ≠ u2.heap.size ∧ A ≠ u2.heap.size ∧ q9 ≠ u2.heap.size := ⟨Z2.rt.size, fun h => by have := Z2.lt _ h; omega, by have := Z2.bx.lt; omega, by have := Z2.op.lt; omega, by have := Z2.cf.lt; omega, by have := E2.lt; omega⟩
        have T3 := TM.out Z3
        refine hK.out _ _ (Or.inr T3) ?_
        clear hK K9
        try simp only [Act.put, sqa, sqz, sqs]
        generalize hqq : u2.heap.size = qx at *
        generalize u2.alloc (.cells (zq1 0 0 0 false false 0 0) 63) = u3 at *
        refine wpAnyG_one (i := 10) (by kernel_rfl) rfl (fun K9 hK => ?_)
        refine step_store_bk rfl 63 (.tmp 21) (.tmp 142) rfl qx (zq1 o9.port o9.lane (o9.word : Int) o9.copy o9.ends (kq : Int) (kr : Int)) rfl rfl KB (by kernel_rfl) rfl rfl ?_
        intro uF sF oF
        have ZF := (Z3.box oF (fun h => by have h2 : qx < _ := h.2; omega) nq.2.1 nq.1 nq.2.2.1 nq.2.2.2.1 nq.2.2.2.2.1).std
        have EF := E3.on oF nq.2.2.2.2.2
        have TF := TM.out ZF
        refine hK.out _ _ (Or.inr TF) ?_
        clear hK K9
        try simp only [Act.put, sqa]
        refine wpAnyG_one (i := 11) (by kernel_rfl) rfl (fun K9 hK => ?_)
        go_simp
        refine hK.out _ _ (Or.inl (by kernel_rfl)) ?_
        clear hK K9
        try simp only [Act.put, sqa, sqz, sqs]
        refine wpAnyG_done (by kernel_rfl) ?_ _
        go_wp2_with fail
        go_meet
        exact ⟨qx, F1, rfl, rfl, sF, EF, ZF⟩
       ·clear hi9
        refine wpOpG (i := 9) rfl (fun K9 hK => ?_)
        go_simp
        have Z2 := Z1.cut.next ((Below.refl u1.heap.size u1).alloc (Nat.le_refl _) (.cells (zq1 0 0 0 false false 0 0) 63))
        have E2 := E1.next ((Below.refl u1.heap.size u1).alloc (Nat.le_refl _) (.cells (zq1 0 0 0 false false 0 0) 63))
        have KB := Bk.new u1 (zq1 0 0 0 false false 0 0) 63
        have nq : w4.heap.size ≤ u1.heap.size ∧ ¬ F u1.heap.size ∧ wx ≠ u1.heap.size ∧ ob ≠ u1.heap.size ∧ A ≠ u1.heap.size ∧ q9 ≠ u1.heap.size := ⟨Z1.rt.size, fun h => by have := Z1.lt _ h; omega, by have := Z1.bx.lt; omega, by have := Z1.op.lt; omega, by have := Z1.cf.lt; omega, by have := E1.lt; omega⟩
        have T2 := TM.out Z2
        have hy2 := hy.next ((Below.refl u1.heap.size u1).alloc (Nat.le_refl _) (.cells (zq1 0 0 0 false false 0 0) 63))
        refine hK.out _ _ (Or.inr T2) ?_
        clear hK K9
        try simp only [Act.put, sqa, sqz, sqs]
        generalize hqq : u1.heap.size = qx at *
        generalize u1.alloc (.cells (zq1 0 0 0 false false 0 0) 63) = u2 at *
        refine wpAnyG_one (i := 5) (by kernel_rfl) rfl (fun K9 hK => ?_)
        go_simp
        with_reducible refine (PPRG.out Z2 hy2).mono ?_
        rintro e u3 ⟨F1, rfl, nb, gb⟩
        have Z3 := Z2.prog nb gb
        have E3 := E2.gr gb n0
        have T3 := TM.out Z3
        have KB3 := KB.gr gb nq.2.1
        have nf2 := gb.off nq.2.1 KB.lt
        refine hK.out _ _ (Or.inr T3) ?_
        clear hK K9
        try simp only [Act.put, sqa, sqz, sqs]
        refine wpAnyG_tk [11] (some 135) (i := 6) (v := ?vv46) rfl rfl (by kernel_rfl) (fun _ _ _ h => h) (Or.inl ⟨by rfl, ?yv46⟩) T3 ?rv46
        case yv46 => (intro V hSV; obtain ⟨s0, s1⟩ := hSV; go_simp; try with_reducible rfl)
        try simp only [Act.put, sqa, sqz, sqs]
        refine wpAnyG_tk [11] (some 142) (i := 7) (v := ?vv47) rfl rfl (by kernel_rfl) (fun _ _ _ h => h) (Or.inl ⟨by rfl, ?yv47⟩) T3 ?rv47
        case yv47 => (intro V hSV; obtain ⟨s0, s1⟩ := hSV; go_simp; try with_reducible rfl)
        try simp only [Act.put, sqa, sqz, sqs]
        refine wpAnyG_tk [11] (some 143) (i := 8) (v := ?vv48) rfl rfl (by kernel_rfl) (fun _ _ _ h => h) (Or.inl ⟨by rfl, ?yv48⟩) T3 ?rv48
        case yv48 => (intro V hSV; obtain ⟨s0, s1⟩ := hSV; go_simp; try with_reducible rfl)
        try simp only [Act.put, sqa, sqz, sqs]
        refine wpAnyG_one (i := 10) (by kernel_rfl) rfl (fun K9 hK => ?_)
        refine step_store_bk rfl 63 (.tmp 21) (.tmp 142) rfl qx (zq1 o9.port o9.lane (o9.word : Int) o9.copy o9.ends (kq : Int) (kr : Int)) rfl rfl KB3 (by kernel_rfl) rfl rfl ?_
        intro uF sF oF
        have ZF := (Z3.box oF (fun h => by have h2 : qx < _ := h.1.2; omega) nf2 nq.1 nq.2.2.1 nq.2.2.2.1 nq.2.2.2.2.1).std
        have EF := E3.on oF nq.2.2.2.2.2
        have TF := TM.out ZF
        refine hK.out _ _ (Or.inr TF) ?_
        clear hK K9
        try simp only [Act.put, sqa]
        refine wpAnyG_one (i := 11) (by kernel_rfl) rfl (fun K9 hK => ?_)
        go_simp
        refine hK.out _ _ (Or.inl (by kernel_rfl)) ?_
        clear hK K9
        try simp only [Act.put, sqa, sqz, sqs]
        refine wpAnyG_done (by kernel_rfl) ?_ _
        go_wp2_with fail
        go_meet
        exact ⟨qx, F1, rfl, rfl, sF, EF, ZF⟩
      ·clear hi9
       refine wpOpG (i := 9) rfl (fun K9 hK => ?_)
       go_simp
       have Z1 := Z0.cut.next ((Below.refl v4.heap.size v4).alloc (Nat.le_refl _) (.cells (zq1 0 0 0 false false 0 0) 63))
       have E1 := E0.next ((Below.refl v4.heap.size v4).alloc (Nat.le_refl _) (.cells (zq1 0 0 0 false false 0 0) 63))
       have KB := Bk.new v4 (zq1 0 0 0 false false 0 0) 63
       have nq : w4.heap.size ≤ v4.heap.size ∧ ¬ F v4.heap.size ∧ wx ≠ v4.heap.size ∧ ob ≠ v4.heap.size ∧ A ≠ v4.heap.size ∧ q9 ≠ v4.heap.size := ⟨Z0.rt.size, fun h => by have := Z0.lt _ h; omega, by have := Z0.bx.lt; omega, by have := Z0.op.lt; omega, by have := Z0.cf.lt; omega, by have := E0.lt; omega⟩
       have T1 := TM.out Z1
       refine hK.out _ _ (Or.inr T1) ?_
       clear hK K9
       try simp only [Act.put, sqa, sqz, sqs]
       generalize hqq : v4.heap.size = qx at *
       generalize v4.alloc (.cells (zq1 0 0 0 false false 0 0) 63) = u1 at *
       refine wpAnyG_one (i := 4) (by kernel_rfl) rfl (fun K9 hK => ?_)
       go_simp
       with_reducible refine (may_any x _ (XI.out.next Z1.rt.below)).mono ?_
       rintro e u2 ⟨mb, rfl, hy, bb1⟩
       have Z2 := Z1.next bb1
       have E2 := E1.next bb1
       have T2 := TM.out Z2
       have KB2 := KB.next bb1
       refine hK.out _ _ (Or.inr T2) ?_
       clear hK K9
       try simp only [Act.put, sqa, sqz, sqs]
       refine wpAnyG_one (i := 5) (by kernel_rfl) rfl (fun K9 hK => ?_)
       go_simp
       with_reducible refine (PPRG.out Z2 hy).mono ?_
       rintro e u3 ⟨F1, rfl, nb, gb⟩
       have Z3 := Z2.prog nb gb
       have E3 := E2.gr gb n0
       have T3 := TM.out Z3
       have KB3 := KB2.gr gb nq.2.1
       have nf2 := gb.off nq.2.1 KB2.lt
       refine hK.out _ _ (Or.inr T3) ?_
       clear hK K9
       try simp only [Act.put, sqa, sqz, sqs]
       refine wpAnyG_tk [11] (some 135) (i := 6) (v := ?vv56) rfl rfl (by kernel_rfl) (fun _ _ _ h => h) (Or.inl ⟨by rfl, ?yv56⟩) T3 ?rv56
       case yv56 => (intro V hSV; obtain ⟨s0, s1⟩ := hSV; go_simp; try with_reducible rfl)
       try simp only [Act.put, sqa, sqz, sqs]
       refine wpAnyG_tk [11] (some 142) (i := 7) (v := ?vv57) rfl rfl (by kernel_rfl) (fun _ _ _ h => h) (Or.inl ⟨by rfl, ?yv57⟩) T3 ?rv57
       case yv57 => (intro V hSV; obtain ⟨s0, s1⟩ := hSV; go_simp; try with_reducible rfl)
       try simp only [Act.put, sqa, sqz, sqs]
       refine wpAnyG_tk [11] (some 143) (i := 8) (v := ?vv58) rfl rfl (by kernel_rfl) (fun _ _ _ h => h) (Or.inl ⟨by rfl, ?yv58⟩) T3 ?rv58
       case yv58 => (intro V hSV; obtain ⟨s0, s1⟩ := hSV; go_simp; try with_reducible rfl)
       try simp only [Act.put, sqa, sqz, sqs]
       refine wpAnyG_one (i := 10) (by kernel_rfl) rfl (fun K9 hK => ?_)
       refine step_store_bk rfl 63 (.tmp 21) (.tmp 142) rfl qx (zq1 o9.port o9.lane (o9.word : Int) o9.copy o9.ends (kq : Int) (kr : Int)) rfl rfl KB3 (by kernel_rfl) rfl rfl ?_
       intro uF sF oF
       have ZF := (Z3.box oF (fun h => by have h2 : qx < _ := h.1.2; omega) nf2 nq.1 nq.2.2.1 nq.2.2.2.1 nq.2.2.2.2.1).std
       have EF := E3.on oF nq.2.2.2.2.2
       have TF := TM.out ZF
       refine hK.out _ _ (Or.inr TF) ?_
       clear hK K9
       try simp only [Act.put, sqa]
       refine wpAnyG_one (i := 11) (by kernel_rfl) rfl (fun K9 hK => ?_)
       go_simp
       refine hK.out _ _ (Or.inl (by kernel_rfl)) ?_
       clear hK K9
       try simp only [Act.put, sqa, sqz, sqs]
       refine wpAnyG_done (by kernel_rfl) ?_ _
       go_wp2_with fail
       go_meet
       exact ⟨qx, F1, rfl, rfl, sF, EF, ZF⟩
     case rest =>
      obtain ⟨q, F1, rfl, rfl, bq, b9, z9⟩ := hcut
      have Z3 : Hid _ := z9
      have hEQ := run_eq_out o9.port o9.lane (o9.word : Int) o9.copy o9.ends
      have m0 := (bq.cell 0).trans rfl
      have n0 := (b9.cell 0).trans rfl
      have m1 := (bq.cell 1).trans rfl
      have n1 := (b9.cell 1).trans rfl
      have m2 := (bq.cell 2).trans rfl
      have n2 := (b9.cell 2).trans rfl
      have m3 := (bq.cell 3).trans rfl
      have n3 := (b9.cell 3).trans rfl
      have m4 := (bq.cell 4).trans rfl
      have n4 := (b9.cell 4).trans rfl
      have m5 := (bq.cell 5).trans rfl
      have n5 := (b9.cell 5).trans rfl
      have m6 := (bq.cell 6).trans rfl
      have n6 := (b9.cell 6).trans rfl
      clear bq b9 z9
      go_wp2_with fail
      go_meet
      exact ⟨by simp, S1, F1, cs1, Z3.out.ps⟩
   case rest =>
    obtain ⟨rfl, S', F', cs', L9'⟩ := hcut
    have L9 : Hid _ := L9'
    have hsz := L9'.dr.sz
    clear L9' Z8
    go_wp2_with (first
     | (refine wpList_load_bk_g (by rfl) 34 (.tmp 8) rfl wx rfl _ L9.out.bx Tryz.underlying34 rfl (by rw [hsz.1]; kernel_rfl) ?_)
     | (go_at_call 26; with_reducible refine (like15 L9.out.rt.rt L9.out.dr).mono ?_; rintro e w9 ⟨rfl, b9⟩))
    go_roundw
    case rel => exact ⟨j + 1, S', F', cs', HJ.out, by go_num, L9.out.next b9⟩
    case measure =>
     have := HJ.out
     simp [RowKit.intOf]
     omega
end Go.Proofs.YtmmegmonmilkcaaGreatDoor
