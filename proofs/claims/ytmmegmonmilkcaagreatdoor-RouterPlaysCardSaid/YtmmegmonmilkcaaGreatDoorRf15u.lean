/-
 The document's router, by value: Put. (Written by gen_rf15u.py.)
-/
import Derived.Test.YtmmegmonmilkcaaGreatDoorRfA
namespace Go.Proofs.YtmmegmonmilkcaaGreatDoor
open Go.RowKit
set_option maxRecDepth 100000 in
set_option maxHeartbeats 8000000 in
theorem rput15 {w : World} {c : G.Cf} {S : RS} {v : Value} {D : Nat → Prop} (h : DR w c S v D) (ok : ROk S) (hn : (S.n : Int) = c.l) (p l : Int) (x : Nat) :
  Calls Tryz.prog 16 #[v, .int .i64 p, .int .i64 l, .int .u64 (x : Int)] w fun e w' => ∃ v', e = .returned (.tuple #[v', .int .i64 (putRt S p l x).2]) ∧ DR w' c (putRt S p l x).1 v' (fun g => D g ∨ w.heap.size ≤ g) ∧ Below w.heap.size w w' := by
 obtain ⟨L, g1, g2, g3, g4, c1, c2, c3, c4, rfl, eL, r, dd, xx⟩ := h
 have IC := fun u => ris15 c S.node (.slice (some ⟨g1, 0, none⟩) (5 * S.n) c1) (.slice (some ⟨g2, 0, none⟩) (5 * S.n) c2) (.slice (some ⟨g3, 0, none⟩) 5 c3) (.slice (some ⟨g4, 0, none⟩) 5 c4) p l u
 rw [show (decide (0 ≤ p ∧ p < 5 ∧ 0 ≤ l ∧ l < c.l)) = inRt S p l by unfold inRt; rw [hn]] at IC
 have DR0 : Hid (∀ u, Below w.heap.size w u → DR u c S (rrv c S.node (.slice (some ⟨g1, 0, none⟩) (5 * S.n) c1) (.slice (some ⟨g2, 0, none⟩) (5 * S.n) c2) (.slice (some ⟨g3, 0, none⟩) 5 c3) (.slice (some ⟨g4, 0, none⟩) 5 c4)) (fun g => D g ∨ w.heap.size ≤ g)) := show _ from fun u hu => (DR.next (show DR w c S _ D from ⟨L, g1, g2, g3, g4, c1, c2, c3, c4, rfl, eL, r, dd, xx⟩) hu).mono fun g _ hg => Or.inl hg
 by_cases hin : inRt S p l = true
 case neg =>
  have e1 : putRt S p l x = (S, 1) := by unfold putRt; rw [if_neg hin]
  rw [e1]
  rw [show inRt S p l = false by simpa using hin] at IC
  clear hin e1 xx r eL dd ok
  generalize S.n = n at *
  generalize S.node = node at *
  obtain ⟨cw, ch, cl, cd, cr, ci, cb, we, ca⟩ := c
  simp only [rrv, rrc] at *
  have X0 : Hid (S2 w ((w.alloc (.cells (zq0 cw ch cl cd cr ci cb we ca node (some ⟨g1, 0, none⟩) (5 * n) c1 (some ⟨g2, 0, none⟩) (5 * n) c2 (some ⟨g3, 0, none⟩) 5 c3 (some ⟨g4, 0, none⟩) 5 c4) 34)).alloc (.cells zqZ 34)) w.heap.size (zq0 cw ch cl cd cr ci cb we ca node (some ⟨g1, 0, none⟩) (5 * n) c1 (some ⟨g2, 0, none⟩) (5 * n) c2 (some ⟨g3, 0, none⟩) 5 c3 (some ⟨g4, 0, none⟩) 5 c4) zqZ) := S2.start w _ _
  clear hn
  go_enter Tryz.func16, Tryz.ntmps16
  go_upto_region 1 with fail
  generalize ((w.alloc (.cells (zq0 cw ch cl cd cr ci cb we ca node (some ⟨g1, 0, none⟩) (5 * n) c1 (some ⟨g2, 0, none⟩) (5 * n) c2 (some ⟨g3, 0, none⟩) 5 c3 (some ⟨g4, 0, none⟩) 5 c4) 34)).alloc (.cells zqZ 34)) = v0 at *
  obtain ⟨b, hb⟩ : ∃ b, w.heap.size = b := ⟨_, rfl⟩
  rw [hb] at X0 ⊢
  clear hb
  go_upto_region 2 with (first
   | (refine wpList_load_bk rfl 34 (.tmp 4) rfl b rfl _ X0.out.p Tryz.underlying34 rfl (by kernel_rfl) ?_)
   | (go_at_call 43; with_reducible refine (IC _).mono ?_; rintro e w1 ⟨rfl, b1⟩))
  have X1 : Hid _ := X0.out.next b1
  clear X0 b1 IC
  go_wp2_with (first
   | (refine wpList_load_bk rfl 34 (.tmp 4) rfl b rfl _ X1.out.p Tryz.underlying34 rfl (by kernel_rfl) ?_)
   | (refine wpList_store_bk rfl 34 (.tmp 8) (.tmp 19) rfl (b + 1) (zq0 cw ch cl cd cr ci cb we ca node (some ⟨g1, 0, none⟩) (5 * n) c1 (some ⟨g2, 0, none⟩) (5 * n) c2 (some ⟨g3, 0, none⟩) 5 c3 (some ⟨g4, 0, none⟩) 5 c4) rfl rfl X1.out.r (by kernel_rfl) rfl rfl ?_; intro wF qF oF))
  have XF := X1.out.ret oF qF
  exact bodyPost_ret (v := .tuple #[.agg (zq0 cw ch cl cd cr ci cb we ca node (some ⟨g1, 0, none⟩) (5 * n) c1 (some ⟨g2, 0, none⟩) (5 * n) c2 (some ⟨g3, 0, none⟩) 5 c3 (some ⟨g4, 0, none⟩) 5 c4), .int .i64 1]) (results_ct (P := Tryz.prog) Tryz.results16 _ _ (b + 1) 34 _ _ rfl qF Tryz.underlying34 rfl (by kernel_rfl)) rfl ⟨_, rfl, DR0.out _ XF.bl, XF.bl⟩
 obtain ⟨Pn, Ln, rfl, rfl, hP, hLn, hix⟩ := in_nat hin
 obtain ⟨k, hk⟩ : ∃ k, ixRt S (Pn : Int) (Ln : Int) = k := ⟨_, rfl⟩
 have hk5 : k < 5 * S.n := hk ▸ ix_lt hin
 have e1 : putRt S (Pn : Int) (Ln : Int) x = ({ S with ins := S.ins.set k (putK (S.ins.getD k zks) x).1 }, (putK (S.ins.getD k zks) x).2) := by unfold putRt; rw [if_pos hin, hk]
 rw [e1]
 rw [hin] at IC
 rw [hk] at hix
 obtain ⟨⟨K, a, cap⟩, hx0, hK, hxm, hkL⟩ := lw_at eL ok.il hk5
 simp only at hK
 rw [← hK]
 have okK : KOk K := by rw [hK]; exact ok.ik _ (ins_mem ok hk5)
 have PC : Hid (∀ u, Below w.heap.size w u → Calls Tryz.prog 45 #[lav K a cap, .int .u64 (x : Int)] u fun e w' => ∃ a' cap', e = .returned (.tuple #[lav (putK K x).1 a' cap', .int .i64 (putK K x).2]) ∧ LaR w' (putK K x).1 a' cap' ∧ Below u.heap.size u w' ∧ Whence u.heap.size (K.ws ≠ []) a a') := show _ from fun u hu => rput14 K okK x a cap u ((xx _ hxm).1.next hu)
 have CC : Hid (∀ u, Below w.heap.size w u → Calls Tryz.prog 44 #[rrv c S.node (.slice (some ⟨g1, 0, none⟩) (5 * S.n) c1) (.slice (some ⟨g2, 0, none⟩) (5 * S.n) c2) (.slice (some ⟨g3, 0, none⟩) 5 c3) (.slice (some ⟨g4, 0, none⟩) 5 c4)] u fun e w' => ∃ k1 k2 k3 k4 d1 d2 d3 d4, e = .returned (rrv c S.node (.slice (some ⟨k1, 0, none⟩) (5 * S.n) d1) (.slice (some ⟨k2, 0, none⟩) (5 * S.n) d2) (.slice (some ⟨k3, 0, none⟩) 5 d3) (.slice (some ⟨k4, 0, none⟩) 5 d4)) ∧ R4 w' k1 k2 k3 k4 d1 d2 d3 d4 S.n (lrow L) (vi S.own) (frow S.n S.gv) (frow (5 * S.n) S.mv) ∧ (u.heap.size ≤ k1 ∧ u.heap.size ≤ k2 ∧ u.heap.size ≤ k3 ∧ u.heap.size ≤ k4) ∧ Below u.heap.size u w') := show _ from fun u hu => rclone15 (X1 := lrow L) (X2 := vi S.own) (X3 := frow S.n S.gv) (X4 := frow (5 * S.n) S.mv) c S.node (R4.next r hu) ok.n1 ok.n8 (lrow_one L) (vi_one15 S.own) (frow_one S.n S.gv) (frow_one (5 * S.n) S.mv)
 have SX : Hid (∀ u, Below w.heap.size w u → u.cell? ⟨g1, k * 6, none⟩ = some (.int .i64 (K.r : Int)) ∧ u.cell? ⟨g1, k * 6 + 1, none⟩ = some (.int .i64 K.ph) ∧ u.cell? ⟨g1, k * 6 + 2, none⟩ = some (.int .i64 K.port) ∧ u.cell? ⟨g1, k * 6 + 3, none⟩ = some (.int .i64 K.lane) ∧ u.cell? ⟨g1, k * 6 + 4, none⟩ = some (.slice a K.ws.length cap) ∧ u.cell? ⟨g1, k * 6 + 5, none⟩ = some (.bool K.cp)) := show _ from fun u hu => lw_six (r.next hu).a1 hx0 hk5
 have FIN : Hid (∀ (u : World) k1 k2 k3 k4 d1 d2 d3 d4 (K' : KS) (a' : Option Addr) (cap' : Nat), Below w.heap.size w u → R4 u k1 k2 k3 k4 d1 d2 d3 d4 S.n (lrow (L.set k (K', a', cap'))) (vi S.own) (frow S.n S.gv) (frow (5 * S.n) S.mv) → (w.heap.size ≤ k1 ∧ w.heap.size ≤ k2 ∧ w.heap.size ≤ k3 ∧ w.heap.size ≤ k4) → LaR u K' a' cap' → Whence w.heap.size (K.ws ≠ []) a a' → DR u c { S with ins := S.ins.set k K' } (rrv c S.node (.slice (some ⟨k1, 0, none⟩) (5 * S.n) d1) (.slice (some ⟨k2, 0, none⟩) (5 * S.n) d2) (.slice (some ⟨k3, 0, none⟩) 5 d3) (.slice (some ⟨k4, 0, none⟩) 5 d4)) (fun g => D g ∨ w.heap.size ≤ g)) := show _ from fun u k1 k2 k3 k4 d1 d2 d3 d4 K' a' cap' hu r4 hk la wh => by
  refine ⟨L.set k (K', a', cap'), k1, k2, k3, k4, d1, d2, d3, d4, rfl, by rw [List.map_set, eL], r4, ⟨Or.inr hk.1, Or.inr hk.2.1, Or.inr hk.2.2.1, Or.inr hk.2.2.2⟩, fun y hy => ?_⟩
  rcases List.mem_or_eq_of_mem_set hy with hy | rfl
  ·exact ⟨(xx y hy).1.next hu, fun h1 q hq => Or.inl ((xx y hy).2 h1 q hq)⟩
  ·refine ⟨la, fun _ q hq => ?_⟩
   rcases wh q hq with ⟨h2, z, hz, e9⟩ | h3
   ·exact Or.inl (e9 ▸ (xx _ hxm).2 h2 z hz)
   ·exact Or.inr h3
 have hi5 := ix_int hP hLn ok.n8
 rw [← hix] at hi5
 have J5 : Hid (wrap64 ((Pn : Int) * (S.n : Int)) = ((Pn * S.n : Nat) : Int) ∧ wrap64 (((Pn * S.n : Nat) : Int) + (Ln : Int)) = (k : Int)) := show _ ∧ _ from hi5
 clear hi5
 have hkn : (k : Int) < ((5 * S.n : Nat) : Int) := by omega
 have HLL : Hid (k < L.length) := hkL
 have HLA : Hid (LaR w K a cap) := (xx _ hxm).1
 clear hin hk e1 hxm xx eL r DR0 okK hK hx0 ok hk5 hkL hix
 generalize S.own = own at *
 generalize S.gv = gv at *
 generalize S.mv = mv at *
 generalize S.ins = ins at *
 generalize S.node = node at *
 generalize S.n = n at *
 obtain ⟨cw, ch, cl, cd, cr, ci, cb, we, ca⟩ := c
 simp only [rrv, rrc, lav, lac] at *
 subst hn
 have X0 : Hid (S2 w ((w.alloc (.cells (zqP cw ch n cd cr ci cb we ca node g1 c1 g2 c2 g3 c3 g4 c4 (5 * n)) 34)).alloc (.cells zqZ 34)) w.heap.size (zqP cw ch n cd cr ci cb we ca node g1 c1 g2 c2 g3 c3 g4 c4 (5 * n)) zqZ) := S2.start w _ _
 go_enter Tryz.func16, Tryz.ntmps16
 go_upto_region 1 with fail
 generalize ((w.alloc (.cells (zqP cw ch n cd cr ci cb we ca node g1 c1 g2 c2 g3 c3 g4 c4 (5 * n)) 34)).alloc (.cells zqZ 34)) = v0 at *
 obtain ⟨b, hb⟩ : ∃ b, w.heap.size = b := ⟨_, rfl⟩
 rw [hb] at X0 ⊢
 clear hb
 go_upto_region 3 with (first
  | (refine wpList_load_bk rfl 34 (.tmp 4) rfl b rfl _ X0.out.p Tryz.underlying34 rfl (by kernel_rfl) ?_)
  | (go_at_call 43; with_reducible refine (IC _).mono ?_; rintro e w1 ⟨rfl, b1⟩))
 have X1 : Hid _ := X0.out.next b1
 clear X0 b1 IC
 go_upto_region 4 with (first
  | (refine wpList_load_bk rfl 34 (.tmp 4) rfl b rfl _ X1.out.p Tryz.underlying34 rfl (by kernel_rfl) ?_)
  | (go_at_call 44; with_reducible refine (CC.out _ X1.out.bl).mono ?_; rintro e w2 ⟨k1, k2, k3, k4, d1, d2, d3, d4, rfl, r4, hkk, b2⟩)
  | (refine wpList_store_bk rfl 34 (.tmp 10) (.tmp 21) rfl w2.heap.size (zqP cw ch n cd cr ci cb we ca node k1 d1 k2 d2 k3 d3 k4 d4 (5 * n)) rfl rfl (Bk.new _ _ _) (by kernel_rfl) rfl rfl ?_; intro w3 s3 o3))
 have X3 : Hid _ := (X1.out.next b2).next (below_new o3)
 have N3 : Hid _ := N5.of r4 X1.out.lt b2.size hkk s3 o3
 clear X1 b2 r4 s3 o3 hkk CC
 generalize w2.heap.size = m at *
 have y2 := (X3.out.p.cell 2).trans rfl
 have y10 := (X3.out.p.cell 10).trans rfl
 obtain ⟨x0, x1, x2, x3, x4, x5⟩ := SX.out _ X3.out.bl
 clear SX
 go_upto_region 5 with fail
 rw [J5.out.1, J5.out.2]
 go_upto_region 6 with (first
  | (go_at_call 45; with_reducible refine (PC.out _ X3.out.bl).mono ?_; rintro e w4 ⟨a', cap', rfl, la, b4, wh⟩)
  | (refine wpList_store_bk rfl 100 (.tmp 12) (.tmp 37) rfl w4.heap.size #[.int .i64 ((putK K x).1.r : Int), .int .i64 (putK K x).1.ph, .int .i64 (putK K x).1.port, .int .i64 (putK K x).1.lane, .slice a' (putK K x).1.ws.length cap', .bool (putK K x).1.cp] rfl rfl (Bk.new _ _ _) (by kernel_rfl) rfl rfl ?_; intro w5 s5 o5))
 have X5 : Hid _ := (X3.out.next b4).next (below_new o5)
 have M5 : Hid _ := (N3.out.next b4).next (below_new o5)
 have LA5 : Hid (LaR w5 (putK K x).1 a' cap') := la.next (below_new o5)
 have HQ : Hid (∀ x', a' = some x' → x'.block ≠ k1 ∧ x'.block ≠ b + 1) := show _ from fun x' e => by
  have h1 := wh.apart HLA.out x' e
  have h2 := N3.out.r.lt k1 (Or.inl rfl)
  have h3 := X3.out.lt
  have h4 := N3.out.on1
  have h5 := X3.out.hb
  constructor <;> omega
 have HW : Hid (Whence w.heap.size (K.ws ≠ []) a a') := show Whence _ _ _ _ from wh.mono X3.out.bl.size
 obtain ⟨cur, hcur, hsz, hset⟩ := M5.out.set1 HLL.out ((putK K x).1, a', cap')
 have HS : Hid _ := hset
 have z10 := (M5.out.o.cell 10).trans rfl
 clear X3 N3 b4 o5 la wh PC HLA y2 y10 x0 x1 x2 x3 x4 x5 hset J5
 generalize w4.heap.size = q5 at *
 go_upto_region 7 with (first
  | (refine wpList_load_bk rfl 100 (.tmp 12) rfl q5 rfl _ s5 Tryz.underlying100 rfl (by kernel_rfl) ?_)
  | (refine wpList_store_part rfl 100 (.tmp 43) (.tmp 42) rfl k1 (k * 6) #[.int .i64 ((putK K x).1.r : Int), .int .i64 (putK K x).1.ph, .int .i64 (putK K x).1.port, .int .i64 (putK K x).1.lane, .slice a' (putK K x).1.ws.length cap', .bool (putK K x).1.cp] rfl rfl hcur (by kernel_rfl) hsz rfl ?_; intro w6 s6 o6))
 have M6 : Hid _ := HS.out w6 s6 o6
 have X6 : Hid _ := X5.out.on o6 M5.out.on1
 have LA6 : Hid (LaR w6 (putK K x).1 a' cap') := LA5.out.on o6 fun _ x' e => (HQ.out x' e).1
 clear X5 M5 LA5 HS hcur hsz z10 s5 s6 o6
 go_wp2_with (first
  | (refine wpList_load_bk rfl 34 (.tmp 10) rfl m rfl _ M6.out.o Tryz.underlying34 rfl (by kernel_rfl) ?_)
  | (refine wpList_store_bk rfl 34 (.tmp 8) (.tmp 44) rfl (b + 1) (zqP cw ch n cd cr ci cb we ca node k1 d1 k2 d2 k3 d3 k4 d4 (5 * n)) rfl rfl X6.out.r (by kernel_rfl) rfl rfl ?_; intro wF qF oF))
 have XF := X6.out.ret oF qF
 have hlt := M6.out.lt
 have hbb := XF.hb
 exact bodyPost_ret (v := .tuple #[.agg (zqP cw ch n cd cr ci cb we ca node k1 d1 k2 d2 k3 d3 k4 d4 (5 * n)), .int .i64 (putK K x).2]) (results_ct (P := Tryz.prog) Tryz.results16 _ _ (b + 1) 34 _ _ rfl qF Tryz.underlying34 rfl (by kernel_rfl)) rfl ⟨_, rfl, FIN.out wF k1 k2 k3 k4 d1 d2 d3 d4 (putK K x).1 a' cap' XF.bl (M6.out.ret oF).r ⟨by omega, by omega, by omega, by omega⟩ (LA6.out.on oF fun _ x' e => (HQ.out x' e).2) HW.out, XF.bl⟩
end Go.Proofs.YtmmegmonmilkcaaGreatDoor
