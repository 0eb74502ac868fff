/-
 The document's router, by value: Find. (Written by gen_rf15f.py.)
-/
import Derived.Test.YtmmegmonmilkcaaGreatDoorRfA
import Derived.Test.YtmmegmonmilkcaaGreatDoorRstp
import Derived.Test.YtmmegmonmilkcaaGreatDoorRchoose
namespace Go.Proofs.YtmmegmonmilkcaaGreatDoor
open Go.RowKit
set_option maxRecDepth 100000 in
set_option maxHeartbeats 8000000 in
theorem rfind15 {w : World} {c : G.Cf} {S : RS} {v : Value} {D : Nat → Prop} (h : DR w c S v D) (ok : ROk S) (hn : (S.n : Int) = c.l) (p l cho : Int) (hc1 : -9223372036854775808 ≤ cho) (hc2 : cho ≤ 9223372036854775807) :
  Calls Tryz.prog 19 #[v, .int .i64 p, .int .i64 l, .int .i64 cho] w fun e w' => ∃ v', e = .returned (.tuple #[v', .bool (findRt (telR c S.node) S p l cho).2]) ∧ DR w' c (findRt (telR c S.node) S p l cho).1 v' (fun g => D g ∨ w.heap.size ≤ g) ∧ Below w.heap.size w w' := by
 obtain ⟨L, g1, g2, g3, g4, c1, c2, c3, c4, rfl, eL, r, dd, xx⟩ := h
 have DR0 : Hid (∀ u, Below w.heap.size w u → DR u c S (rrv c S.node (.slice (some ⟨g1, 0, none⟩) (5 * S.n) c1) (.slice (some ⟨g2, 0, none⟩) (5 * S.n) c2) (.slice (some ⟨g3, 0, none⟩) 5 c3) (.slice (some ⟨g4, 0, none⟩) 5 c4)) (fun g => D g ∨ w.heap.size ≤ g)) := show _ from fun u hu => (DR.next (show DR w c S _ D from ⟨L, g1, g2, g3, g4, c1, c2, c3, c4, rfl, eL, r, dd, xx⟩) hu).mono fun g _ hg => Or.inl hg
 have IC := fun u => ris15 c S.node (.slice (some ⟨g1, 0, none⟩) (5 * S.n) c1) (.slice (some ⟨g2, 0, none⟩) (5 * S.n) c2) (.slice (some ⟨g3, 0, none⟩) 5 c3) (.slice (some ⟨g4, 0, none⟩) 5 c4) p l u
 rw [show (decide (0 ≤ p ∧ p < 5 ∧ 0 ≤ l ∧ l < c.l)) = inRt S p l by unfold inRt; rw [hn]] at IC
 by_cases hin : inRt S p l = true
 case neg =>
  have e1 : findRt (telR c S.node) S p l cho = (S, false) := by unfold findRt; rw [if_neg hin]
  rw [e1]
  rw [show inRt S p l = false by simpa using hin] at IC
  clear hin e1 xx r eL dd ok
  generalize S.n = n at *
  generalize S.node = node at *
  obtain ⟨cw, ch, cl, cd, cr, ci, cb, we, ca⟩ := c
  simp only [rrv, rrc] at *
  subst hn
  have X0 : Hid (S2 w ((w.alloc (.cells (zqP cw ch n cd cr ci cb we ca node g1 c1 g2 c2 g3 c3 g4 c4 (5 * n)) 34)).alloc (.cells zqZ 34)) w.heap.size (zqP cw ch n cd cr ci cb we ca node g1 c1 g2 c2 g3 c3 g4 c4 (5 * n)) zqZ) := S2.start w _ _
  go_enter Tryz.func19, Tryz.ntmps19
  go_upto_region 1 with fail
  generalize ((w.alloc (.cells (zqP cw ch n cd cr ci cb we ca node g1 c1 g2 c2 g3 c3 g4 c4 (5 * n)) 34)).alloc (.cells zqZ 34)) = v0 at *
  obtain ⟨b, hb⟩ : ∃ b, w.heap.size = b := ⟨_, rfl⟩
  rw [hb] at X0 ⊢
  clear hb
  go_upto_region 2 with (first
   | (refine wpList_load_bk rfl 34 (.tmp 4) rfl b rfl _ X0.out.p Tryz.underlying34 rfl (by kernel_rfl) ?_)
   | (go_at_call 43; with_reducible refine (IC _).mono ?_; rintro e w1 ⟨rfl, b1⟩))
  have X1 : Hid _ := X0.out.next b1
  clear X0 b1 IC
  go_wp2_with (first
   | (refine wpList_load_bk rfl 34 (.tmp 4) rfl b rfl _ X1.out.p Tryz.underlying34 rfl (by kernel_rfl) ?_)
   | (refine wpList_store_bk rfl 34 (.tmp 8) (.tmp 26) rfl (b + 1) (zqP cw ch n cd cr ci cb we ca node g1 c1 g2 c2 g3 c3 g4 c4 (5 * n)) rfl rfl X1.out.r (by kernel_rfl) rfl rfl ?_; intro wF qF oF))
  have XF := X1.out.ret oF qF
  exact bodyPost_ret (v := .tuple #[.agg (zqP cw ch n cd cr ci cb we ca node g1 c1 g2 c2 g3 c3 g4 c4 (5 * n)), .bool false]) (results_ct (P := Tryz.prog) Tryz.results19 _ _ (b + 1) 34 _ _ rfl qF Tryz.underlying34 rfl (by kernel_rfl)) rfl ⟨_, rfl, DR0.out _ XF.bl, XF.bl⟩
 obtain ⟨Pn, Ln, rfl, rfl, hP, hLn, hix⟩ := in_nat hin
 obtain ⟨k, hk⟩ : ∃ k, ixRt S (Pn : Int) (Ln : Int) = k := ⟨_, rfl⟩
 have hk5 : k < 5 * S.n := hk ▸ ix_lt hin
 rw [hin] at IC
 rw [hk] at hix
 obtain ⟨⟨K, a, cap⟩, hx0, hK, hxm, hkL⟩ := lw_at eL ok.il hk5
 simp only at hK
 have okK : KOk K := by rw [hK]; exact ok.ik _ (ins_mem ok hk5)
 have e1 : findRt (telR c S.node) S (Pn : Int) (Ln : Int) cho = if (findK K S.node (toldRt (telR c S.node) K cho)).2 = true then ({ S with ins := S.ins.set k (findK K S.node (toldRt (telR c S.node) K cho)).1 }, true) else (S, false) := by unfold findRt; rw [if_pos hin, hk, ← hK]
 rw [e1]
 have LAK : LaR w K a cap := (xx _ hxm).1
 have CC : Hid (∀ u, Below w.heap.size w u → Calls Tryz.prog 44 #[rrv c S.node (.slice (some ⟨g1, 0, none⟩) (5 * S.n) c1) (.slice (some ⟨g2, 0, none⟩) (5 * S.n) c2) (.slice (some ⟨g3, 0, none⟩) 5 c3) (.slice (some ⟨g4, 0, none⟩) 5 c4)] u fun e w' => ∃ k1 k2 k3 k4 d1 d2 d3 d4, e = .returned (rrv c S.node (.slice (some ⟨k1, 0, none⟩) (5 * S.n) d1) (.slice (some ⟨k2, 0, none⟩) (5 * S.n) d2) (.slice (some ⟨k3, 0, none⟩) 5 d3) (.slice (some ⟨k4, 0, none⟩) 5 d4)) ∧ R4 w' k1 k2 k3 k4 d1 d2 d3 d4 S.n (lrow L) (vi S.own) (frow S.n S.gv) (frow (5 * S.n) S.mv) ∧ (u.heap.size ≤ k1 ∧ u.heap.size ≤ k2 ∧ u.heap.size ≤ k3 ∧ u.heap.size ≤ k4) ∧ Below u.heap.size u w') := show _ from fun u hu => rclone15 (X1 := lrow L) (X2 := vi S.own) (X3 := frow S.n S.gv) (X4 := frow (5 * S.n) S.mv) c S.node (R4.next r hu) ok.n1 ok.n8 (lrow_one L) (vi_one15 S.own) (frow_one S.n S.gv) (frow_one (5 * S.n) S.mv)
 have SX : Hid (∀ u, Below w.heap.size w u → u.cell? ⟨g1, k * 6, none⟩ = some (.int .i64 (K.r : Int)) ∧ u.cell? ⟨g1, k * 6 + 1, none⟩ = some (.int .i64 K.ph) ∧ u.cell? ⟨g1, k * 6 + 2, none⟩ = some (.int .i64 K.port) ∧ u.cell? ⟨g1, k * 6 + 3, none⟩ = some (.int .i64 K.lane) ∧ u.cell? ⟨g1, k * 6 + 4, none⟩ = some (.slice a K.ws.length cap) ∧ u.cell? ⟨g1, k * 6 + 5, none⟩ = some (.bool K.cp)) := show _ from fun u hu => lw_six (r.next hu).a1 hx0 hk5
 have FIN : Hid (∀ (u : World) k1 k2 k3 k4 d1 d2 d3 d4 (K' : KS) (a' : Option Addr) (cap' : Nat) (own' : List Int) (gv' mv' : List Nat), Below w.heap.size w u → R4 u k1 k2 k3 k4 d1 d2 d3 d4 S.n (lrow (L.set k (K', a', cap'))) (vi own') (frow S.n gv') (frow (5 * S.n) mv') → (w.heap.size ≤ k1 ∧ w.heap.size ≤ k2 ∧ w.heap.size ≤ k3 ∧ w.heap.size ≤ k4) → LaR u K' a' cap' → (K'.ws ≠ [] → Whence w.heap.size (K.ws ≠ []) a a') → DR u c ⟨S.n, S.node, S.ins.set k K', own', gv', mv'⟩ (rrv c S.node (.slice (some ⟨k1, 0, none⟩) (5 * S.n) d1) (.slice (some ⟨k2, 0, none⟩) (5 * S.n) d2) (.slice (some ⟨k3, 0, none⟩) 5 d3) (.slice (some ⟨k4, 0, none⟩) 5 d4)) (fun g => D g ∨ w.heap.size ≤ g)) := show _ from fun u k1 k2 k3 k4 d1 d2 d3 d4 K' a' cap' own' gv' mv' hu r4 hk la wh => by
  refine ⟨L.set k (K', a', cap'), k1, k2, k3, k4, d1, d2, d3, d4, rfl, by rw [List.map_set, eL], r4, ⟨Or.inr hk.1, Or.inr hk.2.1, Or.inr hk.2.2.1, Or.inr hk.2.2.2⟩, fun y hy => ?_⟩
  rcases List.mem_or_eq_of_mem_set hy with hy | rfl
  ·exact ⟨(xx y hy).1.next hu, fun h1 q hq => Or.inl ((xx y hy).2 h1 q hq)⟩
  ·refine ⟨la, fun h1 q hq => ?_⟩
   rcases wh h1 q hq with ⟨h2, z, hz, e9⟩ | h3
   ·exact Or.inl (e9 ▸ (xx _ hxm).2 h2 z hz)
   ·exact Or.inr h3
 have PC : Hid (∀ (P : Int) u, Below w.heap.size w u → Calls Tryz.prog 51 #[lav K a cap, .int .i64 S.node, .int .i64 P] u fun e w' => e = .returned (.tuple #[lav (findK K S.node P).1 a cap, .bool (findK K S.node P).2]) ∧ Below u.heap.size u w') := show _ from fun P u hu => rfind14 K okK.wi S.node P a cap u (LAK.rd.below hu)
 have hi5 := ix_int hP hLn ok.n8
 rw [← hix] at hi5
 have J5 : Hid (wrap64 ((Pn : Int) * (S.n : Int)) = ((Pn * S.n : Nat) : Int) ∧ wrap64 (((Pn * S.n : Nat) : Int) + (Ln : Int)) = (k : Int)) := show _ ∧ _ from hi5
 have hkn : (k : Int) < ((5 * S.n : Nat) : Int) := Int.ofNat_lt.2 hk5
 have HLL : Hid (k < L.length) := hkL
 have HLA : Hid (LaR w K a cap) := LAK
 have HWI : Hid (∀ x ∈ K.ws, x < 18446744073709551616) := show ∀ x ∈ _, _ from okK.wi
 have SC := fun (d : Int) u => G.rstep_any c S.node d u
 have CH := fun (d : Int) u => G.rchoose_any c S.node d cho hc1 hc2 u
 clear hi5 hin hk e1 hxm xx eL r okK hK hx0 ok hk5 hkL hix LAK hc1 hc2
 obtain ⟨PT, hPT⟩ : ∃ PT, toldRt (telR c S.node) K cho = PT := ⟨_, rfl⟩
 rw [hPT]
 have HPT : Hid (toldRt (telR c S.node) K cho = PT) := hPT
 clear hPT
 have HTL : Hid (∀ x t, K.ws = x :: t → PT = if (readR x).1.c = true then G.stp c S.node (readR x).1.d else G.chP (G.opt c S.node (readR x).1.d) cho) := show ∀ x t, _ → _ from fun x t hws => by
  rw [← HPT.out]
  unfold toldRt
  rw [hws]
  rfl
 have HT0 : Hid (K.ws = [] → PT = 0) := show _ → _ from fun hws => by
  rw [← HPT.out]
  unfold toldRt
  rw [hws]
 have HSC : Hid (∀ (d : Int) u, Calls Tryz.prog 49 #[G.cfv c, .int .i64 S.node, .int .i64 d] u fun e w' => e = .returned (.tuple #[.int .i64 (G.stp c S.node d), .bool (G.stB c S.node d)]) ∧ Below u.heap.size u w') := show _ from SC
 have HCH : Hid (∀ (d : Int) u, Calls Tryz.prog 50 #[G.cfv c, .int .i64 S.node, .int .i64 d, .int .i64 cho] u fun e w' => e = .returned (.tuple #[.int .i64 (G.chP (G.opt c S.node d) cho), .bool (G.chB (G.opt c S.node d))]) ∧ Below u.heap.size u w') := show _ from CH
 clear SC CH HPT
 obtain ⟨fS, hfS⟩ : ∃ f, G.stp c S.node = f := ⟨_, rfl⟩
 obtain ⟨fB, hfB⟩ : ∃ f, G.stB c S.node = f := ⟨_, rfl⟩
 obtain ⟨fO, hfO⟩ : ∃ f, G.opt c S.node = f := ⟨_, rfl⟩
 rw [hfS] at HTL HSC
 rw [hfB] at HSC
 rw [hfO] at HTL HCH
 clear hfS hfB hfO
 have PP : Hid (∀ u, Below w.heap.size w u → Calls Tryz.prog 51 #[lav K (a) cap, .int .i64 S.node, .int .i64 (PT)] u fun e w' => e = .returned (.tuple #[lav (findK K S.node (PT)).1 (a) cap, .bool (findK K S.node (PT)).2]) ∧ Below u.heap.size u w') := show _ from PC.out (PT)
 obtain ⟨FK, hFK⟩ : ∃ FK, findK K S.node (PT) = FK := ⟨_, rfl⟩
 rw [hFK] at PP ⊢
 obtain ⟨K', is⟩ := FK
 simp only at PP
 have HWS : Hid (K'.ws = K.ws ∧ (is = true → K.ws ≠ [])) := show _ ∧ _ from by
  have h9 := findK_ws K S.node (PT)
  rw [hFK] at h9
  refine ⟨h9, fun hi e9 => ?_⟩
  unfold findK at hFK
  rw [e9] at hFK
  cases hFK
  cases hi
 have HRD : Hid (∀ u, Below w.heap.size w u → LaR u K' (a) cap) := show _ from fun u hu => by
  have h9 := HLA.out.next hu
  exact ⟨by rw [HWS.out.1]; exact h9.rd, by rw [HWS.out.1]; exact h9.nil, by rw [HWS.out.1]; exact h9.le, h9.mx⟩
 clear hFK PC
 generalize S.own = own at *
 generalize S.gv = gv at *
 generalize S.mv = mv at *
 generalize S.ins = ins at *
 generalize S.node = node at *
 generalize S.n = n at *
 obtain ⟨cw, ch, cl, cd, cr, ci, cb, we, ca⟩ := c
 simp only [rrv, rrc, lav, lac, G.cfv, G.cfc] at *
 subst hn
 have X0 : Hid (S2 w ((w.alloc (.cells (zqP cw ch n cd cr ci cb we ca node g1 c1 g2 c2 g3 c3 g4 c4 (5 * n)) 34)).alloc (.cells zqZ 34)) w.heap.size (zqP cw ch n cd cr ci cb we ca node g1 c1 g2 c2 g3 c3 g4 c4 (5 * n)) zqZ) := S2.start w _ _
 go_enter Tryz.func19, Tryz.ntmps19
 go_upto_region 1 with fail
 generalize ((w.alloc (.cells (zqP cw ch n cd cr ci cb we ca node g1 c1 g2 c2 g3 c3 g4 c4 (5 * n)) 34)).alloc (.cells zqZ 34)) = v0 at *
 obtain ⟨b, hb⟩ : ∃ b, w.heap.size = b := ⟨_, rfl⟩
 rw [hb] at X0 ⊢
 clear hb
 go_upto_region 3 with (first
  | (refine wpList_load_bk rfl 34 (.tmp 4) rfl b rfl _ X0.out.p Tryz.underlying34 rfl (by kernel_rfl) ?_)
  | (go_at_call 43; with_reducible refine (IC _).mono ?_; rintro e w1 ⟨rfl, b1⟩))
 have X1 : Hid _ := X0.out.next b1
 clear X0 b1 IC
 have y2 := (X1.out.p.cell 2).trans rfl
 go_upto_region 4 with fail
 rw [J5.out.1, J5.out.2]
 have y10 := (X1.out.p.cell 10).trans rfl
 obtain ⟨x0, x1, x2, x3, x4, x5⟩ := SX.out _ X1.out.bl
 go_upto_if 41 with fail
 go_cut [11] from 12 to 78 (fun y wc => y = .int .i64 PT ∧ S2 w wc b (zqP cw ch n cd cr ci cb we ca node g1 c1 g2 c2 g3 c3 g4 c4 (5 * n)) zqZ)
 case first =>
  cases hws : K.ws with
  | nil =>
   obtain rfl : PT = 0 := HT0.out hws
   try simp only [List.length_nil]
   clear hws HT0 HTL
   go_wp2_with fail
   go_meet
   exact ⟨rfl, X1.out⟩
  | cons x t =>
   have hxl : x < 18446744073709551616 := HWI.out x (by rw [hws]; exact List.mem_cons_self ..)
   obtain ⟨ga, oa, ha, hga, hcw⟩ := HLA.out.rd 0 (.int .u64 (x : Int)) (by rw [hws]; rfl)
   subst ha
   have cx : w1.cell? ⟨ga, oa, none⟩ = some (.int .u64 (x : Int)) := (X1.out.bl.cell (p := ⟨ga, oa, none⟩) hga).trans hcw
   have RC := fun u => rread_any x hxl u
   have hT := HTL.out x t hws
   rw [hws, List.length_cons] at x4
   try simp only [List.length_cons]
   have hpos : (0 : Int) < ((t.length + 1 : Nat) : Int) := by omega
   clear hws hcw hga hxl HTL HT0
   obtain ⟨⟨⟨fk, fs, fd, fq, fl, fm, fcc, fx⟩, er⟩, hRR⟩ : ∃ RR, readR x = RR := ⟨_, rfl⟩
   rw [hRR] at RC hT
   simp only [flv, flc] at RC
   simp only at hT
   clear hRR
   go_upto_region 7 with (first
    | (go_at_call 48; with_reducible refine (RC _).mono ?_; rintro e w2 ⟨rfl, b2⟩)
    | (refine wpList_store_bk rfl 112 (.tmp 12) (.tmp 52) rfl w2.heap.size (zq3 fk fs fd fq fl fm fcc fx) rfl rfl (Bk.new _ _ _) (by kernel_rfl) rfl rfl ?_; intro w3 s3 o3))
   have X3 : Hid _ := (X1.out.next b2).next (below_new o3)
   have F3 : Hid (Bk w3 w2.heap.size (zq3 fk fs fd fq fl fm fcc fx) 112) := s3
   clear X1 b2 s3 o3 cx x0 x1 x2 x3 x4 x5 y2 y10 RC
   generalize w2.heap.size = fb at *
   have f2 : w3.cell? ⟨fb, 2, none⟩ = some (.int .i64 fd) := (F3.out.cell 2).trans rfl
   have f6 : w3.cell? ⟨fb, 6, none⟩ = some (.bool fcc) := (F3.out.cell 6).trans rfl
   have y0 : w3.cell? ⟨b, 0, none⟩ = some (.int .i64 cw) := (X3.out.p.cell 0).trans rfl
   have y1 : w3.cell? ⟨b, 1, none⟩ = some (.int .i64 ch) := (X3.out.p.cell 1).trans rfl
   have y2 : w3.cell? ⟨b, 2, none⟩ = some (.int .i64 (n : Int)) := (X3.out.p.cell 2).trans rfl
   have y3 : w3.cell? ⟨b, 3, none⟩ = some (.int .i64 cd) := (X3.out.p.cell 3).trans rfl
   have y4 : w3.cell? ⟨b, 4, none⟩ = some (.int .i64 cr) := (X3.out.p.cell 4).trans rfl
   have y5 : w3.cell? ⟨b, 5, none⟩ = some (.int .i64 ci) := (X3.out.p.cell 5).trans rfl
   have y6 : w3.cell? ⟨b, 6, none⟩ = some (.int .i64 cb) := (X3.out.p.cell 6).trans rfl
   have y7 : w3.cell? ⟨b, 7, none⟩ = some (.bool we) := (X3.out.p.cell 7).trans rfl
   have y8 : w3.cell? ⟨b, 8, none⟩ = some (.bool ca) := (X3.out.p.cell 8).trans rfl
   have y9 : w3.cell? ⟨b, 9, none⟩ = some (.int .i64 node) := (X3.out.p.cell 9).trans rfl
   cases fcc with
   | true =>
    obtain rfl : PT = fS fd := hT
    have SC1 := HSC.out fd
    generalize fS fd = pt at *
    generalize fB fd = tb at *
    go_wp2_with (go_at_call 49; with_reducible refine (SC1 _).mono ?_; rintro e w4 ⟨rfl, b4⟩)
    go_meet
    exact ⟨rfl, X3.out.next b4⟩
   | false =>
    obtain rfl : PT = G.chP (fO fd) cho := hT
    have SC1 := HCH.out fd
    generalize G.chP (fO fd) cho = pt at *
    generalize G.chB (fO fd) = tb at *
    go_wp2_with (go_at_call 50; with_reducible refine (SC1 _).mono ?_; rintro e w4 ⟨rfl, b4⟩)
    go_meet
    exact ⟨rfl, X3.out.next b4⟩
 case rest =>
  obtain ⟨rfl, X4'⟩ := hcut
  have X4 : Hid _ := X4'
  clear X4' X1 x0 x1 x2 x3 x4 x5 y2 y10 HSC HCH HTL HT0
  generalize wc = w4 at *
  go_upto_region 12 with fail
  have TS : Hid (∀ u, Below w4.heap.size w4 u → u.cell? ⟨b, 9, none⟩ = some (.int .i64 node) ∧ u.cell? ⟨b, 10, none⟩ = some (.slice (some ⟨g1, 0, none⟩) (5 * n) c1) ∧ u.cell? ⟨g1, k * 6, none⟩ = some (.int .i64 (K.r : Int)) ∧ u.cell? ⟨g1, k * 6 + 1, none⟩ = some (.int .i64 K.ph) ∧ u.cell? ⟨g1, k * 6 + 2, none⟩ = some (.int .i64 K.port) ∧ u.cell? ⟨g1, k * 6 + 3, none⟩ = some (.int .i64 K.lane) ∧ u.cell? ⟨g1, k * 6 + 4, none⟩ = some (.slice a K.ws.length cap) ∧ u.cell? ⟨g1, k * 6 + 5, none⟩ = some (.bool K.cp)) := show _ from fun u hu => ⟨((X4.out.p.next hu).cell 9).trans rfl, ((X4.out.p.next hu).cell 10).trans rfl, SX.out u (X4.out.bl.trans (hu.mono X4.out.bl.size))⟩
  go_cut [18, 19] from 18 to 90 (fun x y wc => ∃ q, x = .pointer (some ⟨q, 0, none⟩) ∧ y = .bool is ∧ Bk wc q (zq2 (K'.r : Int) K'.ph K'.port K'.lane a K'.ws.length cap K'.cp) 100 ∧ Below w4.heap.size w4 wc)
  case first =>
   have D0 : Below w4.heap.size w4 w4.drew := (Below.refl _ _).drew
   have T0 := TS.out _ D0
   have hkm : (k : Int) < 5 * (n : Int) := by omega
   have hB4 := X4.out.bl
   refine wp_region_G (fun V => V.cell? ⟨b, 9, none⟩ = some (.int .i64 node) ∧ V.cell? ⟨b, 10, none⟩ = some (.slice (some ⟨g1, 0, none⟩) (5 * n) c1) ∧ V.cell? ⟨g1, k * 6, none⟩ = some (.int .i64 (K.r : Int)) ∧ V.cell? ⟨g1, k * 6 + 1, none⟩ = some (.int .i64 K.ph) ∧ V.cell? ⟨g1, k * 6 + 2, none⟩ = some (.int .i64 K.port) ∧ V.cell? ⟨g1, k * 6 + 3, none⟩ = some (.int .i64 K.lane) ∧ V.cell? ⟨g1, k * 6 + 4, none⟩ = some (.slice a K.ws.length cap) ∧ V.cell? ⟨g1, k * 6 + 5, none⟩ = some (.bool K.cp)) 14 (by kernel_rfl) ?_
   refine wpAnyG_tk [14] (some 80) (i := 0) (v := ?vaa0) rfl rfl (by kernel_rfl) (fun _ _ _ h => h) (Or.inl ⟨by rfl, ?yaa0⟩) T0 ?raa0
   case yaa0 => (intro V hSV; obtain ⟨s0, s1, s2, s3, s4, s5, s6, s7⟩ := hSV; go_simp; try with_reducible rfl)
   try simp only [Act.put, sqa, sqz, sqs]
   refine wpAnyG_tk [14] (some 81) (i := 1) (v := ?vaa1) rfl rfl (by kernel_rfl) (fun _ _ _ h => h) (Or.inl ⟨by rfl, ?yaa1⟩) T0 ?raa1
   case yaa1 => (intro V hSV; obtain ⟨s0, s1, s2, s3, s4, s5, s6, s7⟩ := hSV; go_simp; try with_reducible rfl)
   try simp only [Act.put, sqa, sqz, sqs]
   refine wpAnyG_tk [14] (some 82) (i := 2) (v := ?vaa2) rfl rfl (by kernel_rfl) (fun _ _ _ h => h) (Or.inl ⟨by rfl, ?yaa2⟩) T0 ?raa2
   case yaa2 => (intro V hSV; obtain ⟨s0, s1, s2, s3, s4, s5, s6, s7⟩ := hSV; go_simp; try with_reducible rfl)
   try simp only [Act.put, sqa, sqz, sqs]
   refine wpAnyG_tk [14] (some 83) (i := 3) (v := ?vaa3) rfl rfl (by kernel_rfl) (fun _ _ _ h => h) (Or.inl ⟨by rfl, ?yaa3⟩) T0 ?raa3
   case yaa3 => (intro V hSV; obtain ⟨s0, s1, s2, s3, s4, s5, s6, s7⟩ := hSV; go_simp; try with_reducible rfl)
   try simp only [Act.put, sqa, sqz, sqs]
   refine wpAnyG_tk [14] (some 84) (i := 4) (v := ?vaa4) rfl rfl (by kernel_rfl) (fun _ _ _ h => h) (Or.inl ⟨by rfl, ?yaa4⟩) T0 ?raa4
   case yaa4 => (intro V hSV; obtain ⟨s0, s1, s2, s3, s4, s5, s6, s7⟩ := hSV; go_simp; try with_reducible rfl)
   try simp only [Act.put, sqa, sqz, sqs]
   refine wpAnyG_tk [14] (some 85) (i := 5) (v := ?vaa5) rfl rfl (by kernel_rfl) (fun _ _ _ h => h) (Or.inl ⟨by rfl, ?yaa5⟩) T0 ?raa5
   case yaa5 => (intro V hSV; obtain ⟨s0, s1, s2, s3, s4, s5, s6, s7⟩ := hSV; go_simp; try with_reducible rfl)
   try simp only [Act.put, sqa, sqz, sqs]
   refine wpAnyG_tk [14] (some 86) (i := 6) (v := ?vaa6) rfl rfl (by kernel_rfl) (fun _ _ _ h => h) (Or.inl ⟨by rfl, ?yaa6⟩) T0 ?raa6
   case yaa6 => (intro V hSV; obtain ⟨s0, s1, s2, s3, s4, s5, s6, s7⟩ := hSV; go_simp; try with_reducible rfl)
   try simp only [Act.put, sqa, sqz, sqs]
   refine wpAnyG_tk [14] (some 87) (i := 7) (v := ?vaa7) rfl rfl (by kernel_rfl) (fun _ _ _ h => h) (Or.inl ⟨by rfl, ?yaa7⟩) T0 ?raa7
   case yaa7 => (intro V hSV; obtain ⟨s0, s1, s2, s3, s4, s5, s6, s7⟩ := hSV; go_simp; try with_reducible rfl)
   try simp only [Act.put, sqa, sqz, sqs]
   generalize w4.drew = v4 at *
   refine wpAnyG_any [8, 12] (by kernel_rfl) (by rfl) ?_
   intro i hi
   rcases mem2 hi with rfl | rfl
   ·clear hi
    refine wpOpG (i := 8) rfl (fun K9 hK => ?_)
    go_simp
    with_reducible refine (PP.out _ (hB4.trans (D0.mono hB4.size))).mono ?_
    rintro e u1 ⟨rfl, b1⟩
    have D1 : Below w4.heap.size w4 u1 := D0.trans (b1.mono D0.size)
    have T1 := TS.out _ D1
    refine hK.out _ _ (Or.inr T1) ?_
    clear hK K9
    try simp only [Act.put, sqa, sqz, sqs]
    refine wpAnyG_tk [14] (some 79) (i := 9) (v := ?vcaa9) rfl rfl (by kernel_rfl) (fun _ _ _ h => h) (Or.inl ⟨by rfl, ?ycaa9⟩) T1 ?rcaa9
    case ycaa9 => (intro V hSV; obtain ⟨s0, s1, s2, s3, s4, s5, s6, s7⟩ := hSV; go_simp; try with_reducible rfl)
    try simp only [Act.put, sqa, sqz, sqs]
    refine wpAnyG_tk [14] (some 89) (i := 10) (v := ?vcaa10) rfl rfl (by kernel_rfl) (fun _ _ _ h => h) (Or.inl ⟨by rfl, ?ycaa10⟩) T1 ?rcaa10
    case ycaa10 => (intro V hSV; obtain ⟨s0, s1, s2, s3, s4, s5, s6, s7⟩ := hSV; go_simp; try with_reducible rfl)
    try simp only [Act.put, sqa, sqz, sqs]
    refine wpAnyG_tk [14] (some 90) (i := 11) (v := ?vcaa11) rfl rfl (by kernel_rfl) (fun _ _ _ h => h) (Or.inl ⟨by rfl, ?ycaa11⟩) T1 ?rcaa11
    case ycaa11 => (intro V hSV; obtain ⟨s0, s1, s2, s3, s4, s5, s6, s7⟩ := hSV; go_simp; try with_reducible rfl)
    try simp only [Act.put, sqa, sqz, sqs]
    have D2 : Below w4.heap.size w4 (u1.alloc (.cells (zq2 0 0 0 0 none 0 0 false) 100)) := D1.alloc D1.size _
    have T2 := TS.out _ D2
    refine wpAnyG_one (i := 12) (by kernel_rfl) rfl (fun K hK => ?_)
    go_simp
    refine hK.out _ _ (Or.inr T2) ?_
    clear hK K
    try simp only [Act.put, sqa, sqz, sqs]
    have BK := Bk.new u1 (zq2 0 0 0 0 none 0 0 false) 100
    have hq : w4.heap.size ≤ u1.heap.size := D1.size
    generalize u1.heap.size = q at *
    generalize u1.alloc (.cells (zq2 0 0 0 0 none 0 0 false) 100) = u2 at *
    have d0 := (BK.cell 0).trans rfl
    have d1 := (BK.cell 1).trans rfl
    have d2 := (BK.cell 2).trans rfl
    have d3 := (BK.cell 3).trans rfl
    have d4 := (BK.cell 4).trans rfl
    have d5 := (BK.cell 5).trans rfl
    have f0 := BK.free 0
    have f1 := BK.free 1
    have f2 := BK.free 2
    have f3 := BK.free 3
    have f4 := BK.free 4
    have f5 := BK.free 5
    have D3 := below14 D2 hq (.int .i64 (K'.r : Int)) (.int .i64 K'.ph) (.int .i64 K'.port) (.int .i64 K'.lane) (.slice a K'.ws.length cap) (.bool K'.cp)
    have T3 := TS.out _ D3
    have BK3 := six_at BK (.int .i64 (K'.r : Int)) (.int .i64 K'.ph) (.int .i64 K'.port) (.int .i64 K'.lane) (.slice a K'.ws.length cap) (.bool K'.cp)
    refine wpAnyG_one (i := 13) (by kernel_rfl) rfl (fun K hK => ?_)
    go_simp
    refine hK.out _ _ (Or.inr T3) ?_
    clear hK K
    try simp only [Act.put, sqa, sqz, sqs]
    refine wpAnyG_one (i := 14) (by kernel_rfl) rfl (fun K hK => ?_)
    go_simp
    refine hK.out _ _ (Or.inl (by kernel_rfl)) ?_
    clear hK K
    try simp only [Act.put, sqa, sqz, sqs]
    refine wpAnyG_done (by kernel_rfl) ?_ _
    clear d0 d1 d2 d3 d4 d5 f0 f1 f2 f3 f4 f5
    try go_wp2_with fail
    go_meet
    exact ⟨q, rfl, rfl, BK3, D3⟩
   ·clear hi
    refine wpOpG (i := 12) rfl (fun K9 hK => ?_)
    go_simp
    have D1 : Below w4.heap.size w4 (v4.alloc (.cells (zq2 0 0 0 0 none 0 0 false) 100)) := D0.alloc D0.size _
    have T1 := TS.out _ D1
    have BK1 := Bk.new v4 (zq2 0 0 0 0 none 0 0 false) 100
    have hq : w4.heap.size ≤ v4.heap.size := D0.size
    refine hK.out _ _ (Or.inr T1) ?_
    clear hK K9
    try simp only [Act.put, sqa, sqz, sqs]
    generalize v4.heap.size = q at *
    generalize v4.alloc (.cells (zq2 0 0 0 0 none 0 0 false) 100) = u1 at *
    refine wpAnyG_one (i := 8) (by kernel_rfl) rfl (fun K hK => ?_)
    go_simp
    with_reducible refine (PP.out _ (hB4.trans (D1.mono hB4.size))).mono ?_
    rintro e u2 ⟨rfl, b1⟩
    have D2 : Below w4.heap.size w4 u2 := D1.trans (b1.mono D1.size)
    have T2 := TS.out _ D2
    have BK := BK1.next b1
    refine hK.out _ _ (Or.inr T2) ?_
    clear hK K
    try simp only [Act.put, sqa, sqz, sqs]
    refine wpAnyG_tk [14] (some 79) (i := 9) (v := ?vaaa9) rfl rfl (by kernel_rfl) (fun _ _ _ h => h) (Or.inl ⟨by rfl, ?yaaa9⟩) T2 ?raaa9
    case yaaa9 => (intro V hSV; obtain ⟨s0, s1, s2, s3, s4, s5, s6, s7⟩ := hSV; go_simp; try with_reducible rfl)
    try simp only [Act.put, sqa, sqz, sqs]
    refine wpAnyG_tk [14] (some 89) (i := 10) (v := ?vaaa10) rfl rfl (by kernel_rfl) (fun _ _ _ h => h) (Or.inl ⟨by rfl, ?yaaa10⟩) T2 ?raaa10
    case yaaa10 => (intro V hSV; obtain ⟨s0, s1, s2, s3, s4, s5, s6, s7⟩ := hSV; go_simp; try with_reducible rfl)
    try simp only [Act.put, sqa, sqz, sqs]
    refine wpAnyG_tk [14] (some 90) (i := 11) (v := ?vaaa11) rfl rfl (by kernel_rfl) (fun _ _ _ h => h) (Or.inl ⟨by rfl, ?yaaa11⟩) T2 ?raaa11
    case yaaa11 => (intro V hSV; obtain ⟨s0, s1, s2, s3, s4, s5, s6, s7⟩ := hSV; go_simp; try with_reducible rfl)
    try simp only [Act.put, sqa, sqz, sqs]
    have d0 := (BK.cell 0).trans rfl
    have d1 := (BK.cell 1).trans rfl
    have d2 := (BK.cell 2).trans rfl
    have d3 := (BK.cell 3).trans rfl
    have d4 := (BK.cell 4).trans rfl
    have d5 := (BK.cell 5).trans rfl
    have f0 := BK.free 0
    have f1 := BK.free 1
    have f2 := BK.free 2
    have f3 := BK.free 3
    have f4 := BK.free 4
    have f5 := BK.free 5
    have D3 := below14 D2 hq (.int .i64 (K'.r : Int)) (.int .i64 K'.ph) (.int .i64 K'.port) (.int .i64 K'.lane) (.slice a K'.ws.length cap) (.bool K'.cp)
    have T3 := TS.out _ D3
    have BK3 := six_at BK (.int .i64 (K'.r : Int)) (.int .i64 K'.ph) (.int .i64 K'.port) (.int .i64 K'.lane) (.slice a K'.ws.length cap) (.bool K'.cp)
    refine wpAnyG_one (i := 13) (by kernel_rfl) rfl (fun K hK => ?_)
    go_simp
    refine hK.out _ _ (Or.inr T3) ?_
    clear hK K
    try simp only [Act.put, sqa, sqz, sqs]
    refine wpAnyG_one (i := 14) (by kernel_rfl) rfl (fun K hK => ?_)
    go_simp
    refine hK.out _ _ (Or.inl (by kernel_rfl)) ?_
    clear hK K
    try simp only [Act.put, sqa, sqz, sqs]
    refine wpAnyG_done (by kernel_rfl) ?_ _
    clear d0 d1 d2 d3 d4 d5 f0 f1 f2 f3 f4 f5
    try go_wp2_with fail
    go_meet
    exact ⟨q, rfl, rfl, BK3, D3⟩
  case rest =>
   obtain ⟨q5, rfl, rfl, s5, b5⟩ := hcut
   have X5 : Hid _ := X4.out.next b5
   have S5 : Hid (Bk wc q5 (zq2 (K'.r : Int) K'.ph K'.port K'.lane a K'.ws.length cap K'.cp) 100) := s5
   clear X4 s5 b5 TS PP SX
   cases is with
   | false =>
    go_wp2_with (first
     | (refine wpList_load_bk rfl 34 (.tmp 4) rfl b rfl _ X5.out.p Tryz.underlying34 rfl (by kernel_rfl) ?_)
     | (refine wpList_store_bk rfl 34 (.tmp 8) (.tmp 93) rfl (b + 1) (zqP cw ch n cd cr ci cb we ca node g1 c1 g2 c2 g3 c3 g4 c4 (5 * n)) rfl rfl X5.out.r (by kernel_rfl) rfl rfl ?_; intro wF qF oF))
    have XF := X5.out.ret oF qF
    exact bodyPost_ret (v := .tuple #[.agg (zqP cw ch n cd cr ci cb we ca node g1 c1 g2 c2 g3 c3 g4 c4 (5 * n)), .bool false]) (results_ct (P := Tryz.prog) Tryz.results19 _ _ (b + 1) 34 _ _ rfl qF Tryz.underlying34 rfl (by kernel_rfl)) rfl ⟨_, rfl, DR0.out _ XF.bl, XF.bl⟩
   | true =>
    go_upto_region 15 with fail
    go_upto_region 16 with (first
     | (refine wpList_load_bk rfl 34 (.tmp 4) rfl b rfl _ X5.out.p Tryz.underlying34 rfl (by kernel_rfl) ?_)
     | (go_at_call 44; with_reducible refine (CC.out _ X5.out.bl).mono ?_; rintro e w2 ⟨k1, k2, k3, k4, d1, d2, d3, d4, rfl, r4, hkk, b2⟩)
     | (refine wpList_store_bk rfl 34 (.tmp 20) (.tmp 95) rfl w2.heap.size (zqP cw ch n cd cr ci cb we ca node k1 d1 k2 d2 k3 d3 k4 d4 (5 * n)) rfl rfl (Bk.new _ _ _) (by kernel_rfl) rfl rfl ?_; intro w3 s3 o3))
    have X3 : Hid _ := (X5.out.next b2).next (below_new o3)
    have N3 : Hid _ := N5.of r4 X5.out.lt b2.size hkk s3 o3
    have B3 : Hid (Below wc.heap.size wc w3) := (b2.trans ((below_new o3).mono b2.size))
    have S3 : Hid (Bk w3 q5 (zq2 (K'.r : Int) K'.ph K'.port K'.lane a K'.ws.length cap K'.cp) 100) := S5.out.next B3.out
    have HNE : Hid (K.ws ≠ []) := show _ ≠ _ from HWS.out.2 (by first | rfl | trivial)
    clear X5 S5 b2 r4 s3 o3 hkk CC B3
    generalize w2.heap.size = m at *
    obtain ⟨cur, hcur, hsz, hset⟩ := N3.out.set1 HLL.out (K', a, cap)
    have HS : Hid _ := hset
    have z10 := (N3.out.o.cell 10).trans rfl
    clear hset
    go_upto_region 17 with (first
     | (refine wpList_load_bk rfl 100 (.tmp 18) rfl q5 rfl _ S3.out Tryz.underlying100 rfl (by kernel_rfl) ?_)
     | (refine wpList_store_part rfl 100 (.tmp 100) (.tmp 99) rfl k1 (k * 6) (zq2 (K'.r : Int) K'.ph K'.port K'.lane a K'.ws.length cap K'.cp) rfl rfl hcur (by kernel_rfl) hsz rfl ?_; intro w6 s6 o6))
    have M6 : Hid _ := HS.out w6 s6 o6
    have X6 : Hid _ := X3.out.on o6 N3.out.on1
    clear X3 N3 HS hcur hsz z10 s6 o6
    go_wp2_with (first
     | (refine wpList_load_bk rfl 34 (.tmp 20) rfl m rfl _ M6.out.o Tryz.underlying34 rfl (by kernel_rfl) ?_)
     | (refine wpList_store_bk rfl 34 (.tmp 8) (.tmp 101) rfl (b + 1) (zqP cw ch n cd cr ci cb we ca node k1 d1 k2 d2 k3 d3 k4 d4 (5 * n)) rfl rfl X6.out.r (by kernel_rfl) rfl rfl ?_; intro wF qF oF))
    have XF := X6.out.ret oF qF
    have hlt := M6.out.lt
    have hbb := XF.hb
    exact bodyPost_ret (v := .tuple #[.agg (zqP cw ch n cd cr ci cb we ca node k1 d1 k2 d2 k3 d3 k4 d4 (5 * n)), .bool true]) (results_ct (P := Tryz.prog) Tryz.results19 _ _ (b + 1) 34 _ _ rfl qF Tryz.underlying34 rfl (by kernel_rfl)) rfl ⟨_, rfl, FIN.out wF k1 k2 k3 k4 d1 d2 d3 d4 K' a cap _ _ _ XF.bl (M6.out.ret oF).r ⟨by omega, by omega, by omega, by omega⟩ (HRD.out _ XF.bl) (fun _ => Whence.same _ HNE.out _), XF.bl⟩
end Go.Proofs.YtmmegmonmilkcaaGreatDoor
