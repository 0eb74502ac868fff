/-
  The walk of RouterOwners.
-/
import Derived.Test.YtmmegmonmilkcaaGreatDoorRtLives
import Derived.Test.YtmmegmonmilkcaaGreatDoorRtWord
import Derived.Test.YtmmegmonmilkcaaGreatDoorRtHad
import Derived.Test.YtmmegmonmilkcaaGreatDoorRtNilW
import Derived.Deep.CutBlock
namespace Go.Proofs.YtmmegmonmilkcaaGreatDoor
open Go.RowKit

/-- One step's cells. -/
theorem op_cells {v : World} {b : Nat} {o : Opn} (h : Bk v b (oc o) 42) : v.cell? ⟨b, 0, none⟩ = some (.int .i64 o.kd) ∧ v.cell? ⟨b, 1, none⟩ = some (.int .i64 o.p) ∧ v.cell? ⟨b, 2, none⟩ = some (.int .i64 o.l) ∧ v.cell? ⟨b, 3, none⟩ = some (.int .i64 o.n) ∧ v.cell? ⟨b, 4, none⟩ = some (.int .i64 o.s) ∧ v.cell? ⟨b, 5, none⟩ = some (.bool o.cc) ∧ v.cell? ⟨b, 6, none⟩ = some (.slice o.ha o.hs.length o.hcap) ∧ v.cell? ⟨b, 7, none⟩ = some (.string o.x) ∧ v.cell? ⟨b, 8, none⟩ = some (.slice o.ma o.my.length o.mcap) :=
  ⟨(h.cell 0).trans rfl, (h.cell 1).trans rfl, (h.cell 2).trans rfl, (h.cell 3).trans rfl, (h.cell 4).trans rfl, (h.cell 5).trans rfl, (h.cell 6).trans rfl, (h.cell 7).trans rfl, (h.cell 8).trans rfl⟩
theorem Bk.dr {v : World} {b : Nat} {cs : Array Value} {t : TypeId} (h : Bk v b cs t) (n : Nat) : Bk (v.drewN n) b cs t := h.next (dn (Below.refl _ _) n)
theorem putRt_n (S : RS) (p l : Int) (x : Nat) : (putRt S p l x).1.n = S.n := by unfold putRt; split <;> rfl
theorem findRt_n (T : Fl → Int → Int) (S : RS) (p l ch : Int) : (findRt T S p l ch).1.n = S.n := by unfold findRt; (repeat' split) <;> rfl
theorem giveRt_n (C : Nat → Nat × Nat) (S : RS) (p l : Int) : (giveRt C S p l).1.n = S.n := by unfold giveRt; (repeat' split) <;> rfl
theorem moveRt_n (S : RS) (p : Int) (m : Int → Bool) : (moveRt S p m).1.n = S.n := by unfold moveRt; (repeat' split) <;> rfl
/-- What the classes say. -/
theorem cls_ok {c : G.Cf} (h : G.chk c = 0) (_h1 : 1 ≤ c.l) : ∀ l i, l < c.l.toNat → i < c.l.toNat → (clsR c l).1 ≤ i ∧ i < (clsR c l).1 + (clsR c l).2 → (c.ca && decide ((i : Int) = c.l - 1)) = (c.ca && decide ((l : Int) = c.l - 1)) := by
  intro l i hl hi hc
  unfold clsR G.cla at hc
  rw [if_pos h] at hc
  by_cases e : c.ca = true
  · rw [e] at hc ⊢
    simp only [if_true, Bool.true_and] at hc ⊢
    by_cases e2 : (l : Int) = c.l - 1
    · rw [decide_eq_true e2] at hc ⊢
      simp only [if_true] at hc
      rw [decide_eq_true_eq]
      omega
    · rw [decide_eq_false e2] at hc ⊢
      simp only [Bool.false_eq_true, if_false] at hc
      rw [decide_eq_false_iff_not]
      omega
  · rw [Bool.eq_false_iff.2 e]
    rfl
set_option maxRecDepth 100000 in
set_option maxHeartbeats 16000000 in
theorem owners_law (c0 : G.Cf) (node0 : Int) (R : List Opn) (a : Option Addr) (cap : Nat) (w : World) (hr : OpsIn w a R) (hcap : R.length ≤ cap) (hm : cap ≤ maxLen) (hnil : a = none → cap = 0) (hT : G.Tabs w) (hS : G.Steps w) :
    Calls Tryz.prog 4 #[G.cfv c0, .int .i64 node0, .slice a R.length cap] w fun e w' => e = .returned (.bool true) ∧ Below w.heap.size w w' := by
  have SC := fun v => G.small_form c0 v
  have EC := fun v => early_any a R.length cap v hcap hm hnil
  have NC := fun (c : G.Cf) (h : G.chk c = 0) v => G.node_any c h node0 v
  have WC := fun (c : G.Cf) (h : G.chk c = 0) n (hn : G.isN c n = true) v => router_new c h n hn v
  have Q0 : Hid (Bk (w.alloc (.cells (G.cfc c0) 23)) w.heap.size (G.cfc c0) 23) := Bk.new _ _ _
  have B0 : Hid (Below w.heap.size w (w.alloc (.cells (G.cfc c0) 23))) := (Below.refl _ _).alloc (Nat.le_refl _) _
  have LV := lives_any _ (hT.next B0.out) (hS.next B0.out)
  have HT : Hid (G.Tabs w ∧ G.Steps w) := show _ ∧ _ from ⟨hT, hS⟩
  have HR : Hid (OpsIn w a R) := hr
  clear hr hT hS hnil
  obtain ⟨cw, ch, cl, cd, cr, ci, cb, we, ca⟩ := c0
  simp only [G.cfv, G.cfc] at *
  go_enter Tryz.func4, Tryz.ntmps4
  go_upto_region 1 with fail
  generalize w.alloc (.cells #[.int .i64 cw, .int .i64 ch, .int .i64 cl, .int .i64 cd, .int .i64 cr, .int .i64 ci, .int .i64 cb, .bool we, .bool ca] 23) = v0 at *
  obtain ⟨A, hA⟩ : ∃ A, w.heap.size = A := ⟨_, rfl⟩
  have HAW : Hid (w.heap.size = A) := hA
  rw [hA] at Q0 B0 ⊢
  clear hA
  go_wp2_with fail
  go_at_call 9
  with_reducible refine LV.mono ?_
  rintro e w1 ⟨rfl, b1⟩
  have Q1 : Hid (Bk w1 A #[.int .i64 cw, .int .i64 ch, .int .i64 cl, .int .i64 cd, .int .i64 cr, .int .i64 ci, .int .i64 cb, .bool we, .bool ca] 23) := Q0.out.next b1
  have B1 : Hid (Below A w w1) := B0.out.trans (b1.mono (Nat.le_of_lt Q0.out.lt))
  clear LV b1 Q0 B0
  obtain ⟨k0, k1, k2, k3, k4, k5, k6, k7, k8⟩ := rcfg_cells Q1.out
  go_wp2_with fail
  go_at_call 10
  with_reducible refine (SC _).mono ?_
  rintro e w2 ⟨dw, dh, dl, dd, dr, di, db, de, da, rfl, b2, ft, hw4, hh4⟩
  have Q2 : Hid (Bk w2 A #[.int .i64 cw, .int .i64 ch, .int .i64 cl, .int .i64 cd, .int .i64 cr, .int .i64 ci, .int .i64 cb, .bool we, .bool ca] 23) := Q1.out.next b2
  have B2 : Hid (Below A w w2) := B1.out.trans (b2.mono (Nat.le_of_lt Q1.out.lt))
  clear SC Q1 B1 k0 k1 k2 k3 k4 k5 k6 k7 k8 b2
  obtain ⟨k0, k1, k2, k3, k4, k5, k6, k7, k8⟩ := rcfg_cells Q2.out
  obtain ⟨z0, z1, z2, z3, z4, z5, z6, z7, z8⟩ : w2.frozen? ⟨A, 0, none⟩ = false ∧ w2.frozen? ⟨A, 1, none⟩ = false ∧ w2.frozen? ⟨A, 2, none⟩ = false ∧ w2.frozen? ⟨A, 3, none⟩ = false ∧ w2.frozen? ⟨A, 4, none⟩ = false ∧ w2.frozen? ⟨A, 5, none⟩ = false ∧ w2.frozen? ⟨A, 6, none⟩ = false ∧ w2.frozen? ⟨A, 7, none⟩ = false ∧ w2.frozen? ⟨A, 8, none⟩ = false := ⟨Q2.out.free 0, Q2.out.free 1, Q2.out.free 2, Q2.out.free 3, Q2.out.free 4, Q2.out.free 5, Q2.out.free 6, Q2.out.free 7, Q2.out.free 8⟩
  have hchk := G.chk_fits ft
  go_upto_region 4 with fail
  have Q3 : Hid (Bk (((((((((w2.setCell ⟨A, 0, none⟩ (.int .i64 dw)).setCell ⟨A, 1, none⟩ (.int .i64 dh)).setCell ⟨A, 2, none⟩ (.int .i64 dl)).setCell ⟨A, 3, none⟩ (.int .i64 dd)).setCell ⟨A, 4, none⟩ (.int .i64 dr)).setCell ⟨A, 5, none⟩ (.int .i64 di)).setCell ⟨A, 6, none⟩ (.int .i64 db)).setCell ⟨A, 7, none⟩ (.bool de)).setCell ⟨A, 8, none⟩ (.bool da)) A #[.int .i64 dw, .int .i64 dh, .int .i64 dl, .int .i64 dd, .int .i64 dr, .int .i64 di, .int .i64 db, .bool de, .bool da] 23) := G.Blk.all (show G.Blk w2 A ⟨cw, ch, cl, cd, cr, ci, cb, we, ca⟩ from Q2.out) ⟨dw, dh, dl, dd, dr, di, db, de, da⟩
  have B3 : Hid (Below A w (((((((((w2.setCell ⟨A, 0, none⟩ (.int .i64 dw)).setCell ⟨A, 1, none⟩ (.int .i64 dh)).setCell ⟨A, 2, none⟩ (.int .i64 dl)).setCell ⟨A, 3, none⟩ (.int .i64 dd)).setCell ⟨A, 4, none⟩ (.int .i64 dr)).setCell ⟨A, 5, none⟩ (.int .i64 di)).setCell ⟨A, 6, none⟩ (.int .i64 db)).setCell ⟨A, 7, none⟩ (.bool de)).setCell ⟨A, 8, none⟩ (.bool da))) := G.below_nine B2.out (Nat.le_refl _) _ _ _ _ _ _ _ _ _
  clear Q2 B2 k0 k1 k2 k3 k4 k5 k6 k7 k8 z0 z1 z2 z3 z4 z5 z6 z7 z8
  generalize ((((((((w2.setCell ⟨A, 0, none⟩ (.int .i64 dw)).setCell ⟨A, 1, none⟩ (.int .i64 dh)).setCell ⟨A, 2, none⟩ (.int .i64 dl)).setCell ⟨A, 3, none⟩ (.int .i64 dd)).setCell ⟨A, 4, none⟩ (.int .i64 dr)).setCell ⟨A, 5, none⟩ (.int .i64 di)).setCell ⟨A, 6, none⟩ (.int .i64 db)).setCell ⟨A, 7, none⟩ (.bool de)).setCell ⟨A, 8, none⟩ (.bool da) = v2 at *
  have hnode := G.nde_in hchk node0
  have NC2 : ∀ v, Calls Tryz.prog 11 #[.agg #[.int .i64 dw, .int .i64 dh, .int .i64 dl, .int .i64 dd, .int .i64 dr, .int .i64 di, .int .i64 db, .bool de, .bool da], .int .i64 node0] v fun e w' => e = .returned (.int .i64 (G.nde ⟨dw, dh, dl, dd, dr, di, db, de, da⟩ node0)) ∧ Below v.heap.size v w' := fun v => NC ⟨dw, dh, dl, dd, dr, di, db, de, da⟩ hchk v
  have WC2 : ∀ v, Calls Tryz.prog 12 #[.agg #[.int .i64 dw, .int .i64 dh, .int .i64 dl, .int .i64 dd, .int .i64 dr, .int .i64 di, .int .i64 db, .bool de, .bool da], .int .i64 (G.nde ⟨dw, dh, dl, dd, dr, di, db, de, da⟩ node0)] v fun e w' => ∃ p F, e = .returned (.pointer (some ⟨p, 0, none⟩)) ∧ Rt w' p ⟨dw, dh, dl, dd, dr, di, db, de, da⟩ (newRt dl.toNat dd.toNat (G.nde ⟨dw, dh, dl, dd, dr, di, db, de, da⟩ node0)) F ∧ (∀ g, F g → v.heap.size ≤ g) ∧ Below v.heap.size v w' := fun v => WC ⟨dw, dh, dl, dd, dr, di, db, de, da⟩ hchk _ hnode v
  have hl1 : 1 ≤ dl := ft.l1
  have hl8 : dl ≤ 8 := ft.l2
  have hCL : Hid (∀ l i, l < dl.toNat → i < dl.toNat → (clsR ⟨dw, dh, dl, dd, dr, di, db, de, da⟩ l).1 ≤ i ∧ i < (clsR ⟨dw, dh, dl, dd, dr, di, db, de, da⟩ l).1 + (clsR ⟨dw, dh, dl, dd, dr, di, db, de, da⟩ l).2 → (fun k : Nat => da && decide ((k : Int) = dl - 1)) i = (fun k : Nat => da && decide ((k : Int) = dl - 1)) l) := show _ from cls_ok (c := ⟨dw, dh, dl, dd, dr, di, db, de, da⟩) hchk hl1
  have hWD : Hid (∀ v x, x ∈ R → x.In v → Calls Tryz.prog 17 #[ov x, .agg #[.int .i64 dw, .int .i64 dh, .int .i64 dl, .int .i64 dd, .int .i64 dr, .int .i64 di, .int .i64 db, .bool de, .bool da]] v fun e w' => ∃ y : Nat, e = .returned (.int .u64 (y : Int)) ∧ y < 18446744073709551616 ∧ Below v.heap.size v w') := show _ from fun v x _ hx => (word_any x ⟨dw, dh, dl, dd, dr, di, db, de, da⟩ hchk v hx).mono fun e w' h => ⟨_, h.1, wordR_lt _, h.2⟩
  have hNI : Hid (ROk (newRt dl.toNat dd.toNat (G.nde ⟨dw, dh, dl, dd, dr, di, db, de, da⟩ node0)) ∧ RCl (fun k : Nat => da && decide ((k : Int) = dl - 1)) (newRt dl.toNat dd.toNat (G.nde ⟨dw, dh, dl, dd, dr, di, db, de, da⟩ node0))) := show _ ∧ _ from ⟨ROk.new _ (by omega) (by omega), RCl.new _ _ _ _⟩
  have hNn : (newRt dl.toNat dd.toNat (G.nde ⟨dw, dh, dl, dd, dr, di, db, de, da⟩ node0)).n = dl.toNat := rfl
  clear NC WC hw4 hh4 ft hchk hnode
  generalize (⟨dw, dh, dl, dd, dr, di, db, de, da⟩ : G.Cf) = c2 at *
  generalize G.nde c2 node0 = node at *
  obtain ⟨nn, rfl⟩ : ∃ nn : Nat, dl = (nn : Int) := ⟨dl.toNat, by omega⟩
  simp only [Int.toNat_natCast] at *
  generalize newRt nn dd.toNat node = S0 at *
  have HSn : Hid (S0.n = nn) := hNn
  clear hNn
  obtain ⟨k0, k1, k2, k3, k4, k5, k6, k7, k8⟩ := rcfg_cells Q3.out
  go_wp2_with fail
  go_at_call 11
  with_reducible refine (NC2 _).mono ?_
  rintro e w4 ⟨rfl, b4⟩
  have Q4 : Hid (Bk w4 A #[.int .i64 dw, .int .i64 dh, .int .i64 (nn : Int), .int .i64 dd, .int .i64 dr, .int .i64 di, .int .i64 db, .bool de, .bool da] 23) := Q3.out.next b4
  have B4 : Hid (Below A w w4) := B3.out.trans (b4.mono (Nat.le_of_lt Q3.out.lt))
  clear NC2 b4 Q3 B3 k0 k1 k2 k3 k4 k5 k6 k7 k8
  obtain ⟨k0, k1, k2, k3, k4, k5, k6, k7, k8⟩ := rcfg_cells Q4.out
  go_wp2_with fail
  go_at_call 12
  with_reducible refine (WC2 _).mono ?_
  rintro e w5 ⟨b, F0, rfl, n5, f5, b5⟩
  have L5 : Hid (RSt w4 w5 b c2 S0 F0) := show RSt w4 w5 b c2 S0 F0 from ⟨n5, f5, b5⟩
  clear WC2 n5 f5 b5 k0 k1 k2 k3 k4 k5 k6 k7 k8
  have HR4 : Hid (OpsIn w4 a R) := by
    have h9 := B4.out
    rw [← HAW.out] at h9
    exact HR.out.next h9
  have HT4 : Hid (G.Tabs w4 ∧ G.Steps w4) := by
    have h9 := B4.out
    rw [← HAW.out] at h9
    exact show _ ∧ _ from ⟨HT.out.1.next h9, HT.out.2.next h9⟩
  clear HR HT
  obtain ⟨n, hn⟩ : ∃ n, min R.length 120 = n := ⟨_, rfl⟩
  have hn120 : n ≤ 120 := by omega
  have hnR : n ≤ R.length := by omega
  go_wp2_with fail
  go_at_call 14
  with_reducible refine (EC _).mono ?_
  rintro e w6 ⟨rfl, rfl⟩
  rw [hn]
  clear EC hn hcap hm
  go_wp2_with fail
  go_loopw [8] (fun x wr => ∃ (j : Nat) (S : RS) (F : Nat → Prop), j ≤ n ∧ x = .int .i64 j ∧ S.n = nn ∧ RCl (fun k : Nat => da && decide ((k : Int) = (nn : Int) - 1)) S ∧ RSt w4 wr b c2 S F) (fun x _ => n - (RowKit.intOf x).toNat)
  case atStart => exact ⟨0, S0, F0, Nat.zero_le _, rfl, HSn.out, hNI.out.2, L5.out⟩
  case round =>
    obtain ⟨j, S, F, hjn, rfl, sn, sc, l⟩ := hrel
    have L : Hid (RSt w4 wr b c2 S F) := l
    have SN : Hid (S.n = nn) := sn
    have SC : Hid (RCl (fun k : Nat => da && decide ((k : Int) = (nn : Int) - 1)) S) := sc
    clear L5 HSn hNI l sn sc S0
    by_cases hex : j < n
    · obtain ⟨g, o, x, rfl, hg, hx, xi, hc⟩ := (HR4.out.next L.out.below) j (by omega)
      have hxm : Hid (x ∈ R) := List.mem_of_getElem? hx
      have e1 : (j : Int) < (n : Int) := by omega
      have e3 : (0 : Int) ≤ (j : Int) := by omega
      have x0 := hc 0 (by decide)
      have x1 := hc 1 (by decide)
      have x2 := hc 2 (by decide)
      have x3 := hc 3 (by decide)
      have x4 := hc 4 (by decide)
      have x5 := hc 5 (by decide)
      have x6 := hc 6 (by decide)
      have x7 := hc 7 (by decide)
      have x8 := hc 8 (by decide)
      have XI : Hid (x.In wr) := xi
      simp only [oc, List.getElem?_toArray, List.getElem?_cons_zero, List.getElem?_cons_succ, Nat.add_zero] at x0 x1 x2 x3 x4 x5 x6 x7 x8
      clear hc hx xi
      go_upto_region 13 with fail
      have P7 : Hid (Bk (wr.alloc (.cells #[.int .i64 x.kd, .int .i64 x.p, .int .i64 x.l, .int .i64 x.n, .int .i64 x.s, .bool x.cc, .slice x.ha x.hs.length x.hcap, .string x.x, .slice x.ma x.my.length x.mcap] 42)) wr.heap.size #[.int .i64 x.kd, .int .i64 x.p, .int .i64 x.l, .int .i64 x.n, .int .i64 x.s, .bool x.cc, .slice x.ha x.hs.length x.hcap, .string x.x, .slice x.ma x.my.length x.mcap] 42) := Bk.new _ _ _
      have L7 : Hid (RSt w4 (wr.alloc (.cells #[.int .i64 x.kd, .int .i64 x.p, .int .i64 x.l, .int .i64 x.n, .int .i64 x.s, .bool x.cc, .slice x.ha x.hs.length x.hcap, .string x.x, .slice x.ma x.my.length x.mcap] 42)) b c2 S F) := L.out.alloc _
      have X7 : Hid (x.In (wr.alloc (.cells #[.int .i64 x.kd, .int .i64 x.p, .int .i64 x.l, .int .i64 x.n, .int .i64 x.s, .bool x.cc, .slice x.ha x.hs.length x.hcap, .string x.x, .slice x.ma x.my.length x.mcap] 42))) := XI.out.next ((Below.refl _ _).alloc (Nat.le_refl _) _)
      have O7 : Hid (¬ F wr.heap.size) := L.out.off (Nat.le_refl _)
      clear x0 x1 x2 x3 x4 x5 x6 x7 x8 L XI hg
      generalize wr.alloc (.cells #[.int .i64 x.kd, .int .i64 x.p, .int .i64 x.l, .int .i64 x.n, .int .i64 x.s, .bool x.cc, .slice x.ha x.hs.length x.hcap, .string x.x, .slice x.ma x.my.length x.mcap] 42) = w7 at *
      generalize wr.heap.size = ob at *
      have hk4 := x.k_lt
      have KC := fun v => opkind_any x v
      generalize x.k = kv at *
      have y0 := op_cells (show Bk w7 ob (oc x) _ from P7.out)
      obtain ⟨y0, y1, y2, y3, y4, y5, y6, y7, y8⟩ := y0
      go_upto_block 2 with (go_at_call 15; with_reducible refine (KC _).mono ?_; rintro e w8 ⟨rfl, b8⟩)
      have P8 : Hid (Bk w8 ob (oc x) 42) := P7.out.next b8
      have L8 : Hid (RSt w4 w8 b c2 S F) := L7.out.next b8
      have X8 : Hid (x.In w8) := X7.out.next b8
      clear P7 L7 X7 KC b8 y0 y1 y2 y3 y4 y5 y6 y7 y8
      go_cut [] from 42 to 78 (fun wc => ∃ S' F', S'.n = nn ∧ RCl (fun k : Nat => da && decide ((k : Int) = (nn : Int) - 1)) S' ∧ RSt w4 wc b c2 S' F')
      case first =>
        have hob : ob < w8.heap.size := P8.out.lt
        have hAw : A < w4.heap.size := Q4.out.lt
        have hAF : Hid (¬ F A) := show ¬ F A from fun h => by have := L8.out.news A h; omega
        have Q8 : Hid (Bk w8 A #[.int .i64 dw, .int .i64 dh, .int .i64 (nn : Int), .int .i64 dd, .int .i64 dr, .int .i64 di, .int .i64 db, .bool de, .bool da] 23) := Q4.out.below L8.out.below hAw
        have hkv : kv = 0 ∨ kv = 1 ∨ kv = 2 ∨ kv = 3 := by omega
        rcases hkv with rfl | rfl | rfl | rfl
        · go_wp2_with fail
          have D8 : Below w8.heap.size w8 w8.drew := (Below.refl _ _).drew
          have P9 := P8.out.next D8
          have Q9 := Q8.out.next D8
          have L9 := L8.out.next D8
          have X9 := X8.out.next D8
          have T1 := And.intro (op_cells P9) (rcfg_cells Q9)
          go_region_held3 (fun v => (v.cell? ⟨ob, 0, none⟩ = some (.int .i64 x.kd) ∧ v.cell? ⟨ob, 1, none⟩ = some (.int .i64 x.p) ∧ v.cell? ⟨ob, 2, none⟩ = some (.int .i64 x.l) ∧ v.cell? ⟨ob, 3, none⟩ = some (.int .i64 x.n) ∧ v.cell? ⟨ob, 4, none⟩ = some (.int .i64 x.s) ∧ v.cell? ⟨ob, 5, none⟩ = some (.bool x.cc) ∧ v.cell? ⟨ob, 6, none⟩ = some (.slice x.ha x.hs.length x.hcap) ∧ v.cell? ⟨ob, 7, none⟩ = some (.string x.x) ∧ v.cell? ⟨ob, 8, none⟩ = some (.slice x.ma x.my.length x.mcap)) ∧ v.cell? ⟨A, 0, none⟩ = some (.int .i64 dw) ∧ v.cell? ⟨A, 1, none⟩ = some (.int .i64 dh) ∧ v.cell? ⟨A, 2, none⟩ = some (.int .i64 (nn : Int)) ∧ v.cell? ⟨A, 3, none⟩ = some (.int .i64 dd) ∧ v.cell? ⟨A, 4, none⟩ = some (.int .i64 dr) ∧ v.cell? ⟨A, 5, none⟩ = some (.int .i64 di) ∧ v.cell? ⟨A, 6, none⟩ = some (.int .i64 db) ∧ v.cell? ⟨A, 7, none⟩ = some (.bool de) ∧ v.cell? ⟨A, 8, none⟩ = some (.bool da))
            (first | exact T3 | exact T2 | exact T1 | go_keep)
            (first
              | (go_at_call 17; (with_reducible refine (hWD.out _ x hxm.out X9).mono ?_); rintro e w9 ⟨y, rfl, hy, b9⟩; have La := L9.next b9; have Pa := P9.next b9; have Qa := Q9.next b9; have T2 := And.intro (op_cells Pa) (rcfg_cells Qa))
              | (go_at_call 18; (with_reducible refine (router_put La.rt x.p x.l y hy).mono ?_); rintro e wb ⟨F1, rfl, nb, gb⟩; have Lb := La.step nb gb; have Pb := Pa.gr gb O7.out; have Qb := Qa.gr gb hAF.out; have T3 := And.intro (op_cells Pb) (rcfg_cells Qb))
              | fail)
          have LB : Hid (RSt w4 wb b c2 (putRt S x.p x.l y).1 F1) := Lb
          clear T1 T2 T3 Lb Pb Qb La Pa Qa L9 P9 Q9 X9 D8 nb gb
          go_wp2
          go_meet
          exact ⟨_, F1, (putRt_n ..).trans SN.out, SC.out.put _ _ _, LB.out⟩
        · obtain ⟨y0, y1, y2, y3, y4, y5, y6, y7, y8⟩ := op_cells P8.out
          have FC := router_find L8.out.rt (L8.out.tabs HT4.out.1) (L8.out.steps HT4.out.2) x.p x.l x.n X8.out.n1 X8.out.n2
          go_wp2_with fail
          go_at_call 20
          with_reducible refine FC.mono ?_
          rintro e wb ⟨F1, rfl, nb, gb⟩
          have LB : Hid (RSt w4 wb b c2 (findRt (telR c2 S.node) S x.p x.l x.n).1 F1) := L8.out.step nb gb
          clear nb gb FC y0 y1 y2 y3 y4 y5 y6 y7 y8
          go_wp2
          go_meet
          exact ⟨_, F1, (findRt_n ..).trans SN.out, SC.out.find _ _ _ _, LB.out⟩
        · obtain ⟨y0, y1, y2, y3, y4, y5, y6, y7, y8⟩ := op_cells P8.out
          have FC := router_give L8.out.rt x.p x.l
          go_wp2_with fail
          go_at_call 22
          with_reducible refine FC.mono ?_
          rintro e wb ⟨F1, rfl, nb, gb⟩
          have LB : Hid (RSt w4 wb b c2 (giveRt (clsR c2) S x.p x.l).1 F1) := L8.out.step nb gb
          clear nb gb FC y0 y1 y2 y3 y4 y5 y6 y7 y8
          go_wp2
          go_meet
          exact ⟨_, F1, (giveRt_n ..).trans SN.out, SC.out.give L8.out.rt.ok (fun l i hl hi hc => hCL.out l i (by rw [← SN.out]; exact hl) (by rw [← SN.out]; exact hi) hc) _ _, LB.out⟩
        · go_wp2_with fail
          have D8 : Below w8.heap.size w8 w8.drew := (Below.refl _ _).drew
          have P9 := P8.out.next D8
          have Q9 := Q8.out.next D8
          have L9 := L8.out.next D8
          have X9 := X8.out.next D8
          have T1 := And.intro (op_cells P9) (rcfg_cells Q9)
          go_region_held3 (fun v => (v.cell? ⟨ob, 0, none⟩ = some (.int .i64 x.kd) ∧ v.cell? ⟨ob, 1, none⟩ = some (.int .i64 x.p) ∧ v.cell? ⟨ob, 2, none⟩ = some (.int .i64 x.l) ∧ v.cell? ⟨ob, 3, none⟩ = some (.int .i64 x.n) ∧ v.cell? ⟨ob, 4, none⟩ = some (.int .i64 x.s) ∧ v.cell? ⟨ob, 5, none⟩ = some (.bool x.cc) ∧ v.cell? ⟨ob, 6, none⟩ = some (.slice x.ha x.hs.length x.hcap) ∧ v.cell? ⟨ob, 7, none⟩ = some (.string x.x) ∧ v.cell? ⟨ob, 8, none⟩ = some (.slice x.ma x.my.length x.mcap)) ∧ v.cell? ⟨A, 0, none⟩ = some (.int .i64 dw) ∧ v.cell? ⟨A, 1, none⟩ = some (.int .i64 dh) ∧ v.cell? ⟨A, 2, none⟩ = some (.int .i64 (nn : Int)) ∧ v.cell? ⟨A, 3, none⟩ = some (.int .i64 dd) ∧ v.cell? ⟨A, 4, none⟩ = some (.int .i64 dr) ∧ v.cell? ⟨A, 5, none⟩ = some (.int .i64 di) ∧ v.cell? ⟨A, 6, none⟩ = some (.int .i64 db) ∧ v.cell? ⟨A, 7, none⟩ = some (.bool de) ∧ v.cell? ⟨A, 8, none⟩ = some (.bool da))
            (first | exact T3 | exact T2 | exact T1 | go_keep)
            (first
              | (go_at_call 25; (with_reducible refine (may_any x _ X9).mono ?_); rintro e w9 ⟨mb, rfl, hy, b9⟩; have La := L9.next b9; have Pa := P9.next b9; have Qa := Q9.next b9; have T2 := And.intro (op_cells Pa) (rcfg_cells Qa))
              | (go_at_call 24; (with_reducible refine (router_move La.rt x.p _ _ _ hy).mono ?_); rintro e wb ⟨F1, rfl, nb, gb⟩; have Lb := La.step nb gb; have Pb := Pa.gr gb O7.out; have Qb := Qa.gr gb hAF.out; have T3 := And.intro (op_cells Pb) (rcfg_cells Qb))
              | fail)
          have LB : Hid (RSt w4 wb b c2 (moveRt S x.p (mayB x.my)).1 F1) := Lb
          clear T1 T2 T3 Lb Pb Qb La Pa Qa L9 P9 Q9 X9 D8 nb gb
          go_wp2
          go_meet
          exact ⟨_, F1, (moveRt_n ..).trans SN.out, SC.out.move _ _, LB.out⟩
      case rest =>
        obtain ⟨S1, F1, sn1, sc1, l1⟩ := hcut
        have L1 : Hid (RSt w4 wc b c2 S1 F1) := l1
        have SN1 : Hid (S1.n = nn) := sn1
        have SC1 : Hid (RCl (fun k : Nat => da && decide ((k : Int) = (nn : Int) - 1)) S1) := sc1
        have hAw : A < w4.heap.size := Q4.out.lt
        have hAF : Hid (¬ F1 A) := show ¬ F1 A from fun h => by have := L1.out.news A h; omega
        have Qc : Hid (Bk wc A #[.int .i64 dw, .int .i64 dh, .int .i64 (nn : Int), .int .i64 dd, .int .i64 dr, .int .i64 di, .int .i64 db, .bool de, .bool da] 23) := Q4.out.below L1.out.below hAw
        clear sn1 sc1 l1 P8 L8 X8 O7 SN SC hWD hxm HR4 hk4
        obtain ⟨i0, ki, hz0, hz1, hz2⟩ := info_parts Tryz.info3
        obtain ⟨N, hN⟩ : ∃ N : Nat, 5 * nn = N := ⟨_, rfl⟩
        have hN5 : (5 : Int) * (nn : Int) = (N : Int) := by omega
        have hN40 : N ≤ 40 := by omega
        have hmk : ∀ v : World, (Instr.makeSlice 31 (.int .i64 (N : Int)) (.int .i64 (N : Int))).run Tryz.prog v = .ok (.slice (some ⟨v.heap.size, 0, none⟩) N N) (v.alloc (.cells (hadA S1 N 0) 3)) := fun v => by
          have := run_make (P := Tryz.prog) v 31 3 i0 (.int .i64 0) Tryz.underlying31 ki hz0 .i64 .i64 (N : Int) (N : Int) (by omega) (Int.le_refl _) (by rw [hz2]; omega) (by omega)
          rw [hz1, Int.toNat_natCast] at this
          rw [← made_had]
          exact this
        have k2 : wc.cell? ⟨A, 2, none⟩ = some (.int .i64 (nn : Int)) := Qc.out.cell 2
        go_upto_region 23 with fail
        have H0 : Hid (Bk (wc.alloc (.cells (hadA S1 N 0) 3)) wc.heap.size (hadA S1 N 0) 3) := Bk.new _ _ _
        have M0 : Hid (RSt w4 (wc.alloc (.cells (hadA S1 N 0) 3)) b c2 S1 F1) := L1.out.alloc _
        have hh0 : w4.heap.size ≤ wc.heap.size := L1.out.size
        have hF0 : Hid (¬ F1 wc.heap.size) := L1.out.off (Nat.le_refl _)
        clear L1 Qc k2 hmk
        generalize wc.alloc (.cells (hadA S1 N 0) 3) = wd at *
        generalize wc.heap.size = hb at *
        go_wp2_with fail
        go_loopw [11] (fun x wr => ∃ k : Nat, k ≤ N ∧ x = .int .i64 k ∧ Bk wr hb (hadA S1 N k) 3 ∧ RSt w4 wr b c2 S1 F1) (fun x _ => N - (RowKit.intOf x).toNat)
        case atStart => exact ⟨0, Nat.zero_le _, rfl, H0.out, M0.out⟩
        case round =>
          obtain ⟨k, hk, rfl, hh, mm⟩ := hrel
          have H : Hid (Bk wr hb (hadA S1 N k) 3) := hh
          have M : Hid (RSt w4 wr b c2 S1 F1) := mm
          clear H0 M0 hh mm
          have Q : Hid (Bk wr A #[.int .i64 dw, .int .i64 dh, .int .i64 (nn : Int), .int .i64 dd, .int .i64 dr, .int .i64 di, .int .i64 db, .bool de, .bool da] 23) := Q4.out.below M.out.below hAw
          obtain ⟨k0, k1, k2, k3, k4, k5, k6, k7, k8⟩ := rcfg_cells Q.out
          by_cases hlk : k < N
          · have f1 : (k : Int) < (N : Int) := by omega
            have f2 : (0 : Int) ≤ (k : Int) := by omega
            have f3 : ¬ nn = 0 := by omega
            have OC := owner_at M.out.rt.ok (k := k) (by rw [SN1.out, hN]; exact hlk)
            rw [SN1.out] at OC
            obtain ⟨kq, hkq⟩ : ∃ q : Nat, k / nn = q := ⟨_, rfl⟩
            obtain ⟨kr, hkr⟩ : ∃ q : Nat, k % nn = q := ⟨_, rfl⟩
            have ed : (k : Int) / (nn : Int) = (kq : Int) := by rw [← hkq, Int.natCast_ediv]
            have em : (k : Int) % (nn : Int) = (kr : Int) := by rw [← hkr, Int.natCast_emod]
            have em2 : (k : Int).tmod (nn : Int) = (kr : Int) := by rw [Int.tmod_eq_emod_of_nonneg (by omega)]; exact em
            have hkqk : kq ≤ k := by rw [← hkq]; exact Nat.div_le_self _ _
            have hwq : IntKind.i64.wrap (kq : Int) = (kq : Int) := IntWalk.i64_in _ (by omega)
            have hkr8 : kr < nn := by rw [← hkr]; exact Nat.mod_lt _ (by omega)
            rw [hkq, hkr] at OC
            by_cases hown : 0 ≤ S1.own.getD k 0
            · rw [if_pos hown] at OC
              obtain ⟨m, hm, hm5, hnk, h00, hq, hq5, hmr, hcl, hin, hph⟩ := had_facts M.out.rt.ok SC1.out (k := k) (by rw [SN1.out, hN]; exact hlk) hown
              rw [hm, Int.toNat_natCast] at OC
              rw [SN1.out] at hm5 hnk hq hq5 hmr hcl hin hph
              rw [hkr] at hcl
              have PHC : ∀ v, Rt v b c2 S1 F1 → Calls Tryz.prog 28 #[.pointer (some ⟨b, 0, none⟩), .int .i64 ((m / nn : Nat) : Int), .int .i64 ((m % nn : Nat) : Int)] v fun e w' => e = .returned (.int .i64 2) ∧ Below v.heap.size v w' := fun v h => by
                have := router_phase h ((m / nn : Nat) : Int) ((m % nn : Nat) : Int)
                rw [if_pos hin, hph] at this
                exact this
              have HST : Hid ((hadA S1 N k).setIfInBounds m (.int .i64 1) = hadA S1 N (k + 1)) := hadA_step M.out.rt.ok (by rw [SN1.out, hN]; exact hlk) (by omega) hm
              have hmN : m < N := by omega
              have HAT : Hid ((hadA S1 N k)[m]? = some (.int .i64 0)) := show _ from by rw [hadA_at hmN, h00]; rfl
              have OWN : ∀ v, Rt v b c2 S1 F1 → Calls Tryz.prog 27 #[.pointer (some ⟨b, 0, none⟩), .int .i64 (kq : Int), .int .i64 (kr : Int)] v fun e w' => e = .returned (.tuple #[.int .i64 ((m / nn : Nat) : Int), .int .i64 ((m % nn : Nat) : Int), .bool true]) ∧ Below v.heap.size v w' := fun v h => by
                have := router_owner h (kq : Int) (kr : Int)
                rw [OC] at this
                exact this
              obtain ⟨a, ha⟩ : ∃ q : Nat, m / nn = q := ⟨_, rfl⟩
              obtain ⟨bb, hbb⟩ : ∃ q : Nat, m % nn = q := ⟨_, rfl⟩
              rw [ha] at hq hq5 PHC OWN
              rw [hbb] at hq hmr hcl PHC OWN
              obtain ⟨qa, hqa⟩ : ∃ q : Nat, a * nn = q := ⟨_, rfl⟩
              have hqi : (a : Int) * (nn : Int) = (qa : Int) := by rw [← hqa]; exact (Int.natCast_mul a nn).symm
              rw [hqa] at hq
              have hsum : (qa : Int) + (bb : Int) = (m : Int) := by omega
              have hqa40 : qa ≤ 40 := by omega
              clear hin hph h00 hm hown OC ha hbb hqa hkq hkr
              have D0 : Below wr.heap.size wr wr.drew := (Below.refl _ _).drew
              have Qd := Q.out.next D0
              have Md := M.out.next D0
              have OW := OWN _ Md.rt
              have T1 : wr.drew.cell? ⟨A, 2, none⟩ = some (.int .i64 (nn : Int)) := Qd.cell 2
              go_wp2_with fail
              go_region_held3 (fun v => v.cell? ⟨A, 2, none⟩ = some (.int .i64 (nn : Int)))
                (first | exact T2 | exact T1 | go_keep)
                (first
                  | (go_at_call 27; (with_reducible refine OW.mono ?_); rintro e w9 ⟨rfl, b9⟩; have Q9 := Qd.next b9; have T2 : w9.cell? ⟨A, 2, none⟩ = some (.int .i64 (nn : Int)) := Q9.cell 2)
                  | fail)
              have M9 : Hid (RSt w4 w9 b c2 S1 F1) := Md.next b9
              have H9 : Hid (Bk w9 hb (hadA S1 N k) 3) := (H.out.next D0).next b9
              clear T1 T2 OW Qd Md D0 b9 OWN Q M H k0 k1 k2 k3 k4 k5 k6 k7 k8
              have h9c : w9.cell? ⟨hb, m, none⟩ = some (.int .i64 0) := (H9.out.cell m).trans HAT.out
              have h9f : w9.frozen? ⟨hb, m, none⟩ = false := H9.out.free m
              have q2 : w9.cell? ⟨A, 2, none⟩ = some (.int .i64 (nn : Int)) := Q9.cell 2
              have Q9' : Hid (Bk w9 A #[.int .i64 dw, .int .i64 dh, .int .i64 (nn : Int), .int .i64 dd, .int .i64 dr, .int .i64 di, .int .i64 db, .bool de, .bool da] 23) := Q9
              clear Q9
              go_upto_region 29 with fail
              have hne : A ≠ hb := by omega
              have Ha : Hid (Bk (w9.setCell ⟨hb, m, none⟩ (.int .i64 1)) hb (hadA S1 N (k + 1)) 3) := by
                have := H9.out.set m (.int .i64 1)
                rw [HST.out] at this
                exact this
              have hac : (w9.setCell ⟨hb, m, none⟩ (.int .i64 1)).cell? ⟨hb, m, none⟩ = some (.int .i64 1) := World.cell?_setCell_same _ _ _ h9c
              have Qa : Hid (Bk (w9.setCell ⟨hb, m, none⟩ (.int .i64 1)) A #[.int .i64 dw, .int .i64 dh, .int .i64 (nn : Int), .int .i64 dd, .int .i64 dr, .int .i64 di, .int .i64 db, .bool de, .bool da] 23) := Q9'.out.far hne
              have Ma : Hid (RSt w4 (w9.setCell ⟨hb, m, none⟩ (.int .i64 1)) b c2 S1 F1) := M9.out.far hF0 hh0
              clear H9 HST h9c h9f q2 Q9' M9 HAT
              generalize w9.setCell ⟨hb, m, none⟩ (.int .i64 1) = wa at *
              have p2 := fun n => (Bk.dr Qa.out n).cell 2
              have p8 := fun n => (Bk.dr Qa.out n).cell 8
              simp only [List.getElem?_toArray, List.getElem?_cons_zero, List.getElem?_cons_succ] at p2 p8
              have hcl2 : da = false ∨ (da = true ∧ (kr : Int) = (nn : Int) - 1 ∧ (bb : Int) = (nn : Int) - 1) ∨ (da = true ∧ ¬ (kr : Int) = (nn : Int) - 1 ∧ ¬ (bb : Int) = (nn : Int) - 1) := by
                cases da with
                | false => exact Or.inl rfl
                | true =>
                  simp only [Bool.true_and] at hcl
                  by_cases c : (kr : Int) = (nn : Int) - 1
                  · rw [decide_eq_true c] at hcl
                    exact Or.inr (Or.inl ⟨rfl, c, of_decide_eq_true hcl.symm⟩)
                  · rw [decide_eq_false c] at hcl
                    exact Or.inr (Or.inr ⟨rfl, c, of_decide_eq_false hcl.symm⟩)
              have hnk2 : ¬ (k : Int) < (nn : Int) := by omega
              rcases hcl2 with rfl | ⟨rfl, g1, g2⟩ | ⟨rfl, g1, g2⟩
              · go_wp2_with fail
                go_quiet (fail)
                have v2' := p2 nq
                have v8' := p8 nq
                have hac2 : (wa.drewN nq).cell? ⟨hb, m, none⟩ = some (.int .i64 1) := hac
                have Mb : Hid (RSt w4 (wa.drewN nq) b c2 S1 F1) := Ma.out.drewN nq
                have Hb : Hid (Bk (wa.drewN nq) hb (hadA S1 N (k + 1)) 3) := Bk.dr Ha.out nq
                clear p2 p8 hac Ma Ha Qa
                generalize wa.drewN nq = wb at *
                have PH := PHC _ Mb.out.rt
                go_wp2_with fail
                go_at_call 28
                with_reducible refine PH.mono ?_
                rintro e we ⟨rfl, be⟩
                have Me : Hid (RSt w4 we b c2 S1 F1) := Mb.out.next be
                have He : Hid (Bk we hb (hadA S1 N (k + 1)) 3) := Hb.out.next be
                have Qe : Hid (Bk we A #[.int .i64 dw, .int .i64 dh, .int .i64 (nn : Int), .int .i64 dd, .int .i64 dr, .int .i64 di, .int .i64 db, .bool de, .bool false] 23) := Q4.out.below Me.out.below hAw
                have t2 : we.cell? ⟨A, 2, none⟩ = some (.int .i64 (nn : Int)) := Qe.out.cell 2
                have t8 : we.cell? ⟨A, 8, none⟩ = some (.bool false) := Qe.out.cell 8
                clear PH PHC Mb Hb be hac2 v2' v8' Qe
                go_wp2
                exact ⟨⟨k + 1, by omega, by go_num, He.out, Me.out⟩, by simp [RowKit.intOf]; omega⟩
              · obtain ⟨z, hz⟩ : ∃ z : Nat, (nn : Int) - 1 = (z : Int) := ⟨nn - 1, by omega⟩
                rw [hz] at g1 g2
                have g1' : kr = z := by omega
                have g2' : bb = z := by omega
                subst g1'
                subst g2'
                clear g1 g2
                go_wp2_with fail
                go_quiet (fail)
                have v2' := p2 nq
                have v8' := p8 nq
                have hac2 : (wa.drewN nq).cell? ⟨hb, m, none⟩ = some (.int .i64 1) := hac
                have Mb : Hid (RSt w4 (wa.drewN nq) b c2 S1 F1) := Ma.out.drewN nq
                have Hb : Hid (Bk (wa.drewN nq) hb (hadA S1 N (k + 1)) 3) := Bk.dr Ha.out nq
                clear p2 p8 hac Ma Ha Qa
                generalize wa.drewN nq = wb at *
                have PH := PHC _ Mb.out.rt
                go_wp2_with fail
                go_at_call 28
                with_reducible refine PH.mono ?_
                rintro e we ⟨rfl, be⟩
                have Me : Hid (RSt w4 we b c2 S1 F1) := Mb.out.next be
                have He : Hid (Bk we hb (hadA S1 N (k + 1)) 3) := Hb.out.next be
                have Qe : Hid (Bk we A #[.int .i64 dw, .int .i64 dh, .int .i64 (nn : Int), .int .i64 dd, .int .i64 dr, .int .i64 di, .int .i64 db, .bool de, .bool true] 23) := Q4.out.below Me.out.below hAw
                have t2 : we.cell? ⟨A, 2, none⟩ = some (.int .i64 (nn : Int)) := Qe.out.cell 2
                have t8 : we.cell? ⟨A, 8, none⟩ = some (.bool true) := Qe.out.cell 8
                clear PH PHC Mb Hb be hac2 v2' v8' Qe
                go_wp2
                exact ⟨⟨k + 1, by omega, by go_num, He.out, Me.out⟩, by simp [RowKit.intOf]; omega⟩
              · go_wp2_with fail
                go_quiet (fail)
                have v2' := p2 nq
                have v8' := p8 nq
                have hac2 : (wa.drewN nq).cell? ⟨hb, m, none⟩ = some (.int .i64 1) := hac
                have Mb : Hid (RSt w4 (wa.drewN nq) b c2 S1 F1) := Ma.out.drewN nq
                have Hb : Hid (Bk (wa.drewN nq) hb (hadA S1 N (k + 1)) 3) := Bk.dr Ha.out nq
                clear p2 p8 hac Ma Ha Qa
                generalize wa.drewN nq = wb at *
                have PH := PHC _ Mb.out.rt
                go_wp2_with fail
                go_at_call 28
                with_reducible refine PH.mono ?_
                rintro e we ⟨rfl, be⟩
                have Me : Hid (RSt w4 we b c2 S1 F1) := Mb.out.next be
                have He : Hid (Bk we hb (hadA S1 N (k + 1)) 3) := Hb.out.next be
                have Qe : Hid (Bk we A #[.int .i64 dw, .int .i64 dh, .int .i64 (nn : Int), .int .i64 dd, .int .i64 dr, .int .i64 di, .int .i64 db, .bool de, .bool true] 23) := Q4.out.below Me.out.below hAw
                have t2 : we.cell? ⟨A, 2, none⟩ = some (.int .i64 (nn : Int)) := Qe.out.cell 2
                have t8 : we.cell? ⟨A, 8, none⟩ = some (.bool true) := Qe.out.cell 8
                clear PH PHC Mb Hb be hac2 v2' v8' Qe
                go_wp2
                exact ⟨⟨k + 1, by omega, by go_num, He.out, Me.out⟩, by simp [RowKit.intOf]; omega⟩
            · rw [if_neg hown] at OC
              have OWN : ∀ v, Rt v b c2 S1 F1 → Calls Tryz.prog 27 #[.pointer (some ⟨b, 0, none⟩), .int .i64 (kq : Int), .int .i64 (kr : Int)] v fun e w' => e = .returned (.tuple #[.int .i64 0, .int .i64 0, .bool false]) ∧ Below v.heap.size v w' := fun v h => by
                have := router_owner h (kq : Int) (kr : Int)
                rw [OC] at this
                exact this
              have HST : Hid (hadA S1 N (k + 1) = hadA S1 N k) := hadA_none (by omega)
              clear OC hkq hkr
              have D0 : Below wr.heap.size wr wr.drew := (Below.refl _ _).drew
              have Qd := Q.out.next D0
              have Md := M.out.next D0
              have OW := OWN _ Md.rt
              have T1 : wr.drew.cell? ⟨A, 2, none⟩ = some (.int .i64 (nn : Int)) := Qd.cell 2
              go_wp2_with fail
              go_region_held3 (fun v => v.cell? ⟨A, 2, none⟩ = some (.int .i64 (nn : Int)))
                (first | exact T2 | exact T1 | go_keep)
                (first
                  | (go_at_call 27; (with_reducible refine OW.mono ?_); rintro e w9 ⟨rfl, b9⟩; have Q9 := Qd.next b9; have T2 : w9.cell? ⟨A, 2, none⟩ = some (.int .i64 (nn : Int)) := Q9.cell 2)
                  | fail)
              have M9 : Hid (RSt w4 w9 b c2 S1 F1) := Md.next b9
              have H9 : Hid (Bk w9 hb (hadA S1 N k) 3) := (H.out.next D0).next b9
              clear T1 T2 OW Qd Md D0 b9 OWN Q M H k0 k1 k2 k3 k4 k5 k6 k7 k8
              clear Q9
              go_wp2
              exact ⟨⟨k + 1, by omega, by go_num, by rw [HST.out]; exact H9.out, M9.out⟩, by simp [RowKit.intOf]; omega⟩
          · have f1 : ¬ (k : Int) < (N : Int) := by omega
            go_wp2
            exact ⟨⟨j + 1, S1, F1, by omega, by go_num, SN1.out, SC1.out, M.out⟩, by simp [RowKit.intOf]; omega⟩
    · have e1 : ¬ (j : Int) < (n : Int) := by omega
      go_wp2
      go_ret
      exact ⟨rfl, by rw [HAW.out]; exact B4.out.trans (L.out.below.mono (Nat.le_of_lt Q4.out.lt))⟩
end Go.Proofs.YtmmegmonmilkcaaGreatDoor
