/-
 The document's router, by value: New. (Written by gen_rf15n.py.)
-/
import Derived.Test.YtmmegmonmilkcaaGreatDoorRfA
namespace Go.Proofs.YtmmegmonmilkcaaGreatDoor
open Go.RowKit
set_option maxRecDepth 100000 in
set_option maxHeartbeats 8000000 in
theorem rnew15 (c : G.Cf) (n d : Nat) (hn : (n : Int) = c.l) (hd : (d : Int) = c.d) (h1 : 1 ≤ n) (h8 : n ≤ 8) (node : Int) (w : World) :
  Calls Tryz.prog 13 #[G.cfv c, .int .i64 node] w fun e w' => ∃ v', e = .returned v' ∧ DR w' c (newRt n d node) v' (fun g => w.heap.size ≤ g) ∧ Below w.heap.size w w' := by
 have NL : Hid (∀ u, Calls Tryz.prog 41 #[.int .i64 (d : Int)] u fun e w' => e = .returned (lav (newK d) none 0) ∧ Below u.heap.size u w') := show _ from rnew14 (d : Int)
 have NF : Hid (∀ m : Nat, 0 < m → m ≤ 4096 → ∀ u, Calls Tryz.prog 42 #[.int .i64 (m : Int)] u fun e w' => e = .returned (.agg (R12.fc m 0)) ∧ Below u.heap.size u w') := show _ from fun m h2 h3 u => by
  have := R12.rnew_any (m : Int) u
  rw [clamp_id h2 h3] at this
  exact this
 have N5 : Hid (1 ≤ n ∧ n ≤ 8) := show _ ∧ _ from ⟨h1, h8⟩
 obtain ⟨cw, ch, cl, cd, cr, ci, cb, we, ca⟩ := c
 simp only [G.cfv, G.cfc] at *
 subst hn hd
 have hl0 : ((w.alloc (.cells (zq5 cw ch (n : Int) (d : Int) cr ci cb we ca) 23)).alloc (.cells zqZ 34)).heap.size = w.heap.size + 2 := by simp
 have Q0 : Hid (Bk ((w.alloc (.cells (zq5 cw ch (n : Int) (d : Int) cr ci cb we ca) 23)).alloc (.cells zqZ 34)) w.heap.size (zq5 cw ch (n : Int) (d : Int) cr ci cb we ca) 23 ∧ Bk ((w.alloc (.cells (zq5 cw ch (n : Int) (d : Int) cr ci cb we ca) 23)).alloc (.cells zqZ 34)) (w.heap.size + 1) zqZ 34 ∧ Below w.heap.size w ((w.alloc (.cells (zq5 cw ch (n : Int) (d : Int) cr ci cb we ca) 23)).alloc (.cells zqZ 34)) ∧ ((w.alloc (.cells (zq5 cw ch (n : Int) (d : Int) cr ci cb we ca) 23)).alloc (.cells zqZ 34)).heap.size = w.heap.size + 2) := show _ ∧ _ ∧ _ ∧ _ from ⟨(two_new w _ _ _ _).1, (two_new w _ _ _ _).2, ((Below.refl _ _).alloc (Nat.le_refl _) _).alloc (by simp) _, hl0⟩
 clear hl0
 go_enter Tryz.func13, Tryz.ntmps13
 go_upto_region 1 with fail
 generalize ((w.alloc (.cells (zq5 cw ch (n : Int) (d : Int) cr ci cb we ca) 23)).alloc (.cells zqZ 34)) = v0 at *
 obtain ⟨b, hb⟩ : ∃ b, w.heap.size = b := ⟨_, rfl⟩
 have HB : Hid (w.heap.size = b) := hb
 rw [hb] at Q0 ⊢
 clear hb
 go_upto_region 2 with (first
  | (refine wpList_load_bk rfl 23 (.tmp 2) rfl b rfl _ Q0.out.1 Tryz.underlying23 rfl (by kernel_rfl) ?_)
  | (refine wpList_store_bk rfl 34 (.tmp 5) (.tmp 10) rfl v0.heap.size (zq0 cw ch (n : Int) (d : Int) cr ci cb we ca node none 0 0 none 0 0 none 0 0 none 0 0) rfl rfl (Bk.new _ _ _) (by kernel_rfl) rfl rfl ?_; intro w1 s1 o1))
 have M1 : Hid (W4 w w1 v0.heap.size ⟨cw, ch, (n : Int), (d : Int), cr, ci, cb, we, ca⟩ node n d (.slice none 0 0) (.slice none 0 0) (.slice none 0 0) (.slice none 0 0) 0 0 0 0 ∧ Bk w1 (b + 1) zqZ 34) := show _ ∧ _ from by
  have h2 := HB.out
  obtain ⟨q1, q2, q3, q4⟩ := Q0.out
  rw [← h2] at q1 q2 q3 q4 ⊢
  exact ⟨W4.start (c := ⟨cw, ch, (n : Int), (d : Int), cr, ci, cb, we, ca⟩) q1 q3 (by omega) s1 o1, q2.next (below_new o1)⟩
 have HRB : Hid (b + 1 < v0.heap.size) := show _ < _ from by have := Q0.out.2.2.2; omega
 clear Q0 s1 o1
 generalize v0.heap.size = rb at *
 obtain ⟨i1, ki1, hz01, hz11, hz21⟩ := info_parts (P := Tryz.prog) (e := 100) (z := .agg (zq2 0 0 0 0 none 0 0 false)) (size := 6) (bytes := 64) (by kernel_rfl)
 have KI1 : Hid (Tryz.prog.info? 100 = some i1 ∧ i1.zero = some (.agg (zq2 0 0 0 0 none 0 0 false)) ∧ i1.size = 6 ∧ i1.bytes = 64) := show _ ∧ _ ∧ _ ∧ _ from ⟨ki1, hz01, hz11, hz21⟩
 clear ki1 hz01 hz11 hz21
 obtain ⟨i2, ki2, hz02, hz12, hz22⟩ := info_parts (P := Tryz.prog) (e := 3) (z := .int .i64 0) (size := 1) (bytes := 8) (by kernel_rfl)
 have KI2 : Hid (Tryz.prog.info? 3 = some i2 ∧ i2.zero = some (.int .i64 0) ∧ i2.size = 1 ∧ i2.bytes = 8) := show _ ∧ _ ∧ _ ∧ _ from ⟨ki2, hz02, hz12, hz22⟩
 clear ki2 hz02 hz12 hz22
 obtain ⟨i3, ki3, hz03, hz13, hz23⟩ := info_parts (P := Tryz.prog) (e := 103) (z := .agg #[.int .i64 0, .int .i64 0]) (size := 2) (bytes := 16) (by kernel_rfl)
 have KI3 : Hid (Tryz.prog.info? 103 = some i3 ∧ i3.zero = some (.agg #[.int .i64 0, .int .i64 0]) ∧ i3.size = 2 ∧ i3.bytes = 16) := show _ ∧ _ ∧ _ ∧ _ from ⟨ki3, hz03, hz13, hz23⟩
 clear ki3 hz03 hz13 hz23
 go_wp2_with fail
 go_loopw [6] (fun x wr => ∃ p : Nat, p ≤ 5 ∧ x = .int .i64 (p : Int) ∧ ∃ x1 x2 x3 x4, W4 w wr rb ⟨cw, ch, (n : Int), (d : Int), cr, ci, cb, we, ca⟩ node n d x1 x2 x3 x4 (p * n) (p * n) p p ∧ Bk wr (b + 1) zqZ 34) (fun x _ => 5 - (RowKit.intOf x).toNat)
 case atStart => exact ⟨0, Nat.zero_le _, rfl, _, _, _, _, by rw [Nat.zero_mul]; exact M1.out⟩
 case round =>
  clear M1
  obtain ⟨p, hp, rfl, x1, x2, x3, x4, M2', Z2'⟩ := hrel
  obtain ⟨a1, e1, rfl, -⟩ := W4.sl M2'.o1
  obtain ⟨a2, e2, rfl, -⟩ := W4.sl M2'.o2
  obtain ⟨a3, e3, rfl, hm3⟩ := W4.sl M2'.o3
  obtain ⟨a4, e4, rfl, hm4⟩ := W4.sl M2'.o4
  have M2 : Hid (W4 w wr rb ⟨cw, ch, (n : Int), (d : Int), cr, ci, cb, we, ca⟩ node n d (.slice a1 (p * n) e1) (.slice a2 (p * n) e2) (.slice a3 p e3) (.slice a4 p e4) (p * n) (p * n) p p ∧ Bk wr (b + 1) zqZ 34) := ⟨M2', Z2'⟩
  clear M2' Z2'
  by_cases hlt : p < 5
  case neg =>
   have g1 : ¬ (p : Int) < 5 := by omega
   obtain rfl : p = 5 := by omega
   clear hp hlt hm3 hm4
   go_wp2_with (first
    | (refine wpList_load_bk rfl 34 (.tmp 5) rfl rb rfl _ M2.out.1.r Tryz.underlying34 rfl (by kernel_rfl) ?_)
    | (refine wpList_store_bk rfl 34 (.tmp 4) (.tmp 51) rfl (b + 1) (zq0 cw ch (n : Int) (d : Int) cr ci cb we ca node a1 (5 * n) e1 a2 (5 * n) e2 a3 5 e3 a4 5 e4) rfl rfl M2.out.2 (by kernel_rfl) rfl rfl ?_; intro wF qF oF))
   have hlb := HRB.out
   have hwb := HB.out
   have MF := M2.out.1.on oF (by omega) hlb
   exact bodyPost_ret (v := .agg (zq0 cw ch (n : Int) (d : Int) cr ci cb we ca node a1 (5 * n) e1 a2 (5 * n) e2 a3 5 e3 a4 5 e4)) (results_cell_row rfl _ _ (b + 1) 34 _ (0, 0) _ rfl qF Tryz.underlying34 rfl (by kernel_rfl)) rfl ⟨_, rfl, MF.made N5.out.1, MF.bl⟩
  have g1 : (p : Int) < 5 := by omega
  have HP : Hid (p < 5) := hlt
  clear hp hlt hm3 hm4
  go_wp2_with fail
  go_loopw [7] (fun x wq => ∃ k : Nat, k ≤ n ∧ x = .int .i64 (k : Int) ∧ ∃ x1 x2, W4 w wq rb ⟨cw, ch, (n : Int), (d : Int), cr, ci, cb, we, ca⟩ node n d x1 x2 (.slice a3 p e3) (.slice a4 p e4) (p * n + k) (p * n + k) p p ∧ Bk wq (b + 1) zqZ 34) (fun x _ => n - (RowKit.intOf x).toNat)
  case atStart => exact ⟨0, Nat.zero_le _, rfl, _, _, M2.out⟩
  case round =>
   clear M2
   obtain ⟨k, hk, rfl, x1, x2, M3', Z3'⟩ := hrel
   obtain ⟨a1, e1, rfl, -⟩ := W4.sl M3'.o1
   obtain ⟨a2, e2, rfl, -⟩ := W4.sl M3'.o2
   have M3 : Hid (W4 w wr rb ⟨cw, ch, (n : Int), (d : Int), cr, ci, cb, we, ca⟩ node n d (.slice a1 (p * n + k) e1) (.slice a2 (p * n + k) e2) (.slice a3 p e3) (.slice a4 p e4) (p * n + k) (p * n + k) p p ∧ Bk wr (b + 1) zqZ 34) := ⟨M3', Z3'⟩
   clear M3' Z3'
   have y2 : wr.cell? ⟨b, 2, none⟩ = some (.int .i64 (n : Int)) := by rw [← HB.out]; exact (M3.out.1.q.cell 2).trans rfl
   by_cases hl : k < n
   case neg =>
    have g2 : ¬ (k : Int) < (n : Int) := by omega
    obtain rfl : n = k := by omega
    clear hk hl
    go_wp2_with fail
    clear y2
    have g2 := True.intro
    have TS : Hid (∀ u, Below wr.heap.size wr u → u.cell? ⟨rb, 12, none⟩ = some (.slice a3 p e3) ∧ u.cell? ⟨b, 2, none⟩ = some (.int .i64 (n : Int))) := show _ from fun u hu => by
     have h2 := M3.out.1.next hu
     exact ⟨(h2.r.cell 12).trans rfl, by rw [← HB.out]; exact (h2.q.cell 2).trans rfl⟩
    have D0 : Below wr.heap.size wr wr.drew := (Below.refl _ _).drew
    have T0 := TS.out _ D0
    refine wp_region_G (fun V => V.cell? ⟨rb, 12, none⟩ = some (.slice a3 p e3) ∧ V.cell? ⟨b, 2, none⟩ = some (.int .i64 (n : Int))) 8 (by kernel_rfl) ?_
    refine wpAnyG_tk [8] (some 34) (i := 0) (v := ?vn30) rfl rfl (by kernel_rfl) (fun _ _ _ h => h) (Or.inl ⟨by rfl, ?yn30⟩) T0 ?rn30
    case yn30 => (intro V hSV; obtain ⟨s0, s1⟩ := hSV; go_simp; try with_reducible rfl)
    try simp only [Act.put, sqa, sqz, sqs]
    refine wpAnyG_tk [8] (some 35) (i := 1) (v := ?vn31) rfl rfl (by kernel_rfl) (fun _ _ _ h => h) (Or.inl ⟨by rfl, ?yn31⟩) T0 ?rn31
    case yn31 => (intro V hSV; obtain ⟨s0, s1⟩ := hSV; go_simp; try with_reducible rfl)
    try simp only [Act.put, sqa, sqz, sqs]
    refine wpAnyG_tk [8] (some 36) (i := 2) (v := ?vn32) rfl rfl (by kernel_rfl) (fun _ _ _ h => h) (Or.inl ⟨by rfl, ?yn32⟩) T0 ?rn32
    case yn32 => (intro V hSV; obtain ⟨s0, s1⟩ := hSV; go_simp; try with_reducible rfl)
    try simp only [Act.put, sqa, sqz, sqs]
    refine wpAnyG_tk [8] (some 37) (i := 3) (v := ?vn33) rfl rfl (by kernel_rfl) (fun _ _ _ h => h) (Or.inl ⟨by rfl, ?yn33⟩) T0 ?rn33
    case yn33 => (intro V hSV; obtain ⟨s0, s1⟩ := hSV; go_simp; try with_reducible rfl)
    try simp only [Act.put, sqa, sqz, sqs]
    generalize wr.drew = v4 at *
    refine wpAnyG_one (i := 4) (by kernel_rfl) rfl (fun K hK => ?_)
    go_simp
    with_reducible refine (NF.out n (by have := N5.out.1; omega) (by have := N5.out.2; omega) _).mono ?_
    rintro e u1 ⟨rfl, b1⟩
    have D1 : Below wr.heap.size wr u1 := D0.trans (b1.mono D0.size)
    have T1 := TS.out _ D1
    refine hK.out _ _ (Or.inr T1) ?_
    clear hK K
    try simp only [Act.put, sqa, sqz, sqs]
    have D2 : Below wr.heap.size wr (u1.alloc (.cells #[.int .i64 (n : Int), .int .i64 (-1)] 103)) := D1.alloc D1.size _
    have T2 := TS.out _ D2
    have M5 := M3.out.1.next D2
    have NE : ∀ (j : Nat) (u : Value), (fcl n 0)[j]? = some u → (u1.alloc (.cells #[.int .i64 (n : Int), .int .i64 (-1)] 103)).cell? ⟨u1.heap.size, j, none⟩ = some u := fun j u hj => by
     have := cell_of (heap_alloc_new u1 (.cells #[.int .i64 (n : Int), .int .i64 (-1)] 103)) j
     exact this.trans (by rw [← hj]; simp [fcl])
    have hlen : p ≤ 1000000 := by
     have h2 := N5.out.2
     have h3 := HP.out
     skip
     omega
    have hbase : rb + 1 ≤ (u1.alloc (.cells #[.int .i64 (n : Int), .int .i64 (-1)] 103)).heap.size := by
     have h4 := M5.r.lt
     omega
    refine wpAnyG_one (i := 5) (by kernel_rfl) rfl (fun K hK => ?_)
    go_simp
    refine hK.out _ _ (Or.inr T2) ?_
    clear hK K
    try simp only [Act.put, sqa, sqz, sqs]
    refine wpAnyG_one (i := 6) (by kernel_rfl) rfl (fun K hK => ?_)
    refine step_app_kat rfl (.tmp 35) (.tmp 39) 32 103 i3 (.agg #[.int .i64 0, .int .i64 0]) 2 16 rfl Tryz.underlying32 KI3.out.1 KI3.out.2.1 KI3.out.2.2.1 KI3.out.2.2.2 rfl (by decide) (by decide) (rb + 1) _ (.slice a3 p e3) (p) _ (fcl n 0) u1.heap.size rfl M5.o3 rfl rfl NE (fcl_one1 _ _) hlen hbase ?_
    intro y wb ow gw pw
    have M6 := M5.set3 ow gw pw
    obtain ⟨ay, ey, rfl, -⟩ := W4.sl M6.o3
    have hzz : Bk wb (b + 1) zqZ 34 := by
     have h2 := M5.o3
     have h3 := HRB.out
     have h4 := (M3.out.2.next D2)
     exact h4.kept gw (fun e => by have := (h2.lt e).1; omega)
    have hcr : Bk wb rb _ _ := M5.r.kept gw (fun e => by have := (M5.o3.lt e).1; omega)
    have hcb : Bk wb w.heap.size _ _ := M5.q.kept gw (fun e => by have := (M5.o3.lt e).1; have := M5.lt; omega)
    have T3 : wb.cell? ⟨rb, 12, none⟩ = some (.slice a3 p e3) ∧ wb.cell? ⟨b, 2, none⟩ = some (.int .i64 (n : Int)) := ⟨(hcr.cell 12).trans rfl, by rw [← HB.out]; exact (hcb.cell 2).trans rfl⟩
    have frb := hcr.free 12
    refine hK.out _ _ (Or.inr T3) ?_
    clear hK K
    try simp only [Act.put, sqa]
    refine wpAnyG_tk [8] (some 41) (i := 7) (v := ?vm37) rfl rfl (by kernel_rfl) (fun _ _ _ h => h) (Or.inl ⟨by rfl, ?ym37⟩) T3 ?rm37
    case ym37 => (intro V hSV; obtain ⟨s0, s1⟩ := hSV; go_simp; try with_reducible rfl)
    try simp only [Act.put]
    have c3 := T3.1
    refine wpAnyG_one (i := 8) (by kernel_rfl) rfl (fun K hK => ?_)
    go_simp
    refine hK.out _ _ (Or.inl (by kernel_rfl)) ?_
    clear hK K
    try simp only [Act.put, sqa, sqz, sqs]
    refine wpAnyG_done (by kernel_rfl) ?_ _
    have M4 : Hid (W4 w (wb.setCell ⟨rb, 12, none⟩ (.slice ay (p + 1) ey)) rb ⟨cw, ch, (n : Int), (d : Int), cr, ci, cb, we, ca⟩ node n d (.slice a1 (p * n + n) e1) (.slice a2 (p * n + n) e2) (.slice ay (p + 1) ey) (.slice a4 p e4) (p * n + n) (p * n + n) (p + 1) p ∧ Bk (wb.setCell ⟨rb, 12, none⟩ (.slice ay (p + 1) ey)) (b + 1) zqZ 34) := ⟨M6, hzz.far (by have := HRB.out; omega)⟩
    clear M3 TS D0 T0 T1 D1 T2 D2 M5 NE hlen hbase M6 hzz hcr hcb T3 frb c3 ow gw pw b1
    generalize (wb.setCell ⟨rb, 12, none⟩ (.slice ay (p + 1) ey)) = w4 at *
    generalize ay = b3 at *
    generalize ey = f3 at *
    go_wp2_with fail
    have TS : Hid (∀ u, Below w4.heap.size w4 u → u.cell? ⟨rb, 13, none⟩ = some (.slice a4 p e4) ∧ u.cell? ⟨b, 2, none⟩ = some (.int .i64 (n : Int))) := show _ from fun u hu => by
     have h2 := M4.out.1.next hu
     exact ⟨(h2.r.cell 13).trans rfl, by rw [← HB.out]; exact (h2.q.cell 2).trans rfl⟩
    have D0 : Below w4.heap.size w4 w4.drew := (Below.refl _ _).drew
    have T0 := TS.out _ D0
    obtain ⟨m5, hm5⟩ : ∃ m5, m5 = 5 * n := ⟨_, rfl⟩
    have HM5 : Hid (m5 = 5 * n) := hm5
    have g5 : IntKind.i64.wrap (5 * (n : Int)) = 5 * (n : Int) := by
     have h2 := N5.out.2
     rw [IntWalk.i64_in _ (by omega)]
    have NF5 : ∀ u, Calls Tryz.prog 42 #[.int .i64 (5 * (n : Int))] u fun e w' => e = .returned (.agg (R12.fc m5 0)) ∧ Below u.heap.size u w' := fun u => by
     rw [show 5 * (n : Int) = (m5 : Int) by omega]
     exact NF.out m5 (by have := N5.out.1; omega) (by have := N5.out.2; omega) u
    clear hm5
    refine wp_region_G (fun V => V.cell? ⟨rb, 13, none⟩ = some (.slice a4 p e4) ∧ V.cell? ⟨b, 2, none⟩ = some (.int .i64 (n : Int))) 9 (by kernel_rfl) ?_
    refine wpAnyG_tk [9] (some 42) (i := 0) (v := ?vn40) rfl rfl (by kernel_rfl) (fun _ _ _ h => h) (Or.inl ⟨by rfl, ?yn40⟩) T0 ?rn40
    case yn40 => (intro V hSV; obtain ⟨s0, s1⟩ := hSV; go_simp; try with_reducible rfl)
    try simp only [Act.put, sqa, sqz, sqs]
    refine wpAnyG_tk [9] (some 43) (i := 1) (v := ?vn41) rfl rfl (by kernel_rfl) (fun _ _ _ h => h) (Or.inl ⟨by rfl, ?yn41⟩) T0 ?rn41
    case yn41 => (intro V hSV; obtain ⟨s0, s1⟩ := hSV; go_simp; try with_reducible rfl)
    try simp only [Act.put, sqa, sqz, sqs]
    refine wpAnyG_tk [9] (some 44) (i := 2) (v := ?vn42) rfl rfl (by kernel_rfl) (fun _ _ _ h => h) (Or.inl ⟨by rfl, ?yn42⟩) T0 ?rn42
    case yn42 => (intro V hSV; obtain ⟨s0, s1⟩ := hSV; go_simp; try with_reducible rfl)
    try simp only [Act.put, sqa, sqz, sqs]
    refine wpAnyG_tk [9] (some 45) (i := 3) (v := ?vn43) rfl rfl (by kernel_rfl) (fun _ _ _ h => h) (Or.inl ⟨by rfl, ?yn43⟩) T0 ?rn43
    case yn43 => (intro V hSV; obtain ⟨s0, s1⟩ := hSV; go_simp; try with_reducible rfl)
    try simp only [Act.put, sqa, sqz, sqs]
    refine wpAnyG_tk [9] (some 46) (i := 4) (v := ?vn44) rfl rfl (by kernel_rfl) (fun _ _ _ h => h) (Or.inl ⟨by rfl, ?yn44⟩) T0 ?rn44
    case yn44 => (intro V hSV; obtain ⟨s0, s1⟩ := hSV; go_simp; try with_reducible rfl)
    try simp only [Act.put, sqa, sqz, sqs]
    generalize w4.drew = v4 at *
    refine wpAnyG_one (i := 5) (by kernel_rfl) rfl (fun K hK => ?_)
    go_simp
    with_reducible refine (NF5 _).mono ?_
    rintro e u1 ⟨rfl, b1⟩
    have D1 : Below w4.heap.size w4 u1 := D0.trans (b1.mono D0.size)
    have T1 := TS.out _ D1
    refine hK.out _ _ (Or.inr T1) ?_
    clear hK K
    try simp only [Act.put, sqa, sqz, sqs]
    have D2 : Below w4.heap.size w4 (u1.alloc (.cells #[.int .i64 (m5 : Int), .int .i64 (-1)] 103)) := D1.alloc D1.size _
    have T2 := TS.out _ D2
    have M5 := M4.out.1.next D2
    have NE : ∀ (j : Nat) (u : Value), (fcl m5 0)[j]? = some u → (u1.alloc (.cells #[.int .i64 (m5 : Int), .int .i64 (-1)] 103)).cell? ⟨u1.heap.size, j, none⟩ = some u := fun j u hj => by
     have := cell_of (heap_alloc_new u1 (.cells #[.int .i64 (m5 : Int), .int .i64 (-1)] 103)) j
     exact this.trans (by rw [← hj]; simp [fcl])
    have hlen : p ≤ 1000000 := by
     have h2 := N5.out.2
     have h3 := HP.out
     skip
     omega
    have hbase : rb + 1 ≤ (u1.alloc (.cells #[.int .i64 (m5 : Int), .int .i64 (-1)] 103)).heap.size := by
     have h4 := M5.r.lt
     omega
    refine wpAnyG_one (i := 6) (by kernel_rfl) rfl (fun K hK => ?_)
    go_simp
    refine hK.out _ _ (Or.inr T2) ?_
    clear hK K
    try simp only [Act.put, sqa, sqz, sqs]
    refine wpAnyG_one (i := 7) (by kernel_rfl) rfl (fun K hK => ?_)
    refine step_app_kat rfl (.tmp 43) (.tmp 48) 32 103 i3 (.agg #[.int .i64 0, .int .i64 0]) 2 16 rfl Tryz.underlying32 KI3.out.1 KI3.out.2.1 KI3.out.2.2.1 KI3.out.2.2.2 rfl (by decide) (by decide) (rb + 1) _ (.slice a4 p e4) (p) _ (fcl m5 0) u1.heap.size rfl M5.o4 rfl rfl NE (fcl_one1 _ _) hlen hbase ?_
    intro y wb ow gw pw
    have M6 := M5.set4 (by have h9 := ow; rw [HM5.out] at h9; exact h9) gw pw
    obtain ⟨ay, ey, rfl, -⟩ := W4.sl M6.o4
    have hzz : Bk wb (b + 1) zqZ 34 := by
     have h2 := M5.o4
     have h3 := HRB.out
     have h4 := (M4.out.2.next D2)
     exact h4.kept gw (fun e => by have := (h2.lt e).1; omega)
    have hcr : Bk wb rb _ _ := M5.r.kept gw (fun e => by have := (M5.o4.lt e).1; omega)
    have hcb : Bk wb w.heap.size _ _ := M5.q.kept gw (fun e => by have := (M5.o4.lt e).1; have := M5.lt; omega)
    have T3 : wb.cell? ⟨rb, 13, none⟩ = some (.slice a4 p e4) ∧ wb.cell? ⟨b, 2, none⟩ = some (.int .i64 (n : Int)) := ⟨(hcr.cell 13).trans rfl, by rw [← HB.out]; exact (hcb.cell 2).trans rfl⟩
    have frb := hcr.free 13
    refine hK.out _ _ (Or.inr T3) ?_
    clear hK K
    try simp only [Act.put, sqa]
    refine wpAnyG_tk [9] (some 50) (i := 8) (v := ?vm48) rfl rfl (by kernel_rfl) (fun _ _ _ h => h) (Or.inl ⟨by rfl, ?ym48⟩) T3 ?rm48
    case ym48 => (intro V hSV; obtain ⟨s0, s1⟩ := hSV; go_simp; try with_reducible rfl)
    try simp only [Act.put]
    have c3 := T3.1
    refine wpAnyG_one (i := 9) (by kernel_rfl) rfl (fun K hK => ?_)
    go_simp
    refine hK.out _ _ (Or.inl (by kernel_rfl)) ?_
    clear hK K
    try simp only [Act.put, sqa, sqz, sqs]
    refine wpAnyG_done (by kernel_rfl) ?_ _
    have M5x : Hid (W4 w (wb.setCell ⟨rb, 13, none⟩ (.slice ay (p + 1) ey)) rb ⟨cw, ch, (n : Int), (d : Int), cr, ci, cb, we, ca⟩ node n d (.slice a1 (p * n + n) e1) (.slice a2 (p * n + n) e2) (.slice b3 (p + 1) f3) (.slice ay (p + 1) ey) (p * n + n) (p * n + n) (p + 1) (p + 1) ∧ Bk (wb.setCell ⟨rb, 13, none⟩ (.slice ay (p + 1) ey)) (b + 1) zqZ 34) := ⟨M6, hzz.far (by have := HRB.out; omega)⟩
    clear M4 TS D0 T0 T1 D1 T2 D2 M5 NE hlen hbase M6 hzz hcr hcb T3 frb c3 ow gw pw b1 NF5 g5
    generalize (wb.setCell ⟨rb, 13, none⟩ (.slice ay (p + 1) ey)) = w5 at *
    generalize ay = b4 at *
    generalize ey = f4 at *
    go_wp2
    go_roundw
    case rel =>
     have hx := M5x.out
     rw [show p * n + n = (p + 1) * n by rw [Nat.add_mul, Nat.one_mul]] at hx
     exact ⟨p + 1, by have := HP.out; omega, by go_num, _, _, _, _, hx⟩
    case measure =>
     have := HP.out
     simp [RowKit.intOf]
     omega
   have g2 : (k : Int) < (n : Int) := by omega
   have HK : Hid (k < n) := hl
   clear hk hl
   go_upto_region 8 with fail
   clear y2
   have TS : Hid (∀ u, Below wr.heap.size wr u → u.cell? ⟨rb, 10, none⟩ = some (.slice a1 (p * n + k) e1) ∧ u.cell? ⟨b, 3, none⟩ = some (.int .i64 (d : Int))) := show _ from fun u hu => by
    have h2 := M3.out.1.next hu
    exact ⟨(h2.r.cell 10).trans rfl, by rw [← HB.out]; exact (h2.q.cell 3).trans rfl⟩
   have D0 : Below wr.heap.size wr wr.drew := (Below.refl _ _).drew
   have T0 := TS.out _ D0
   refine wp_region_G (fun V => V.cell? ⟨rb, 10, none⟩ = some (.slice a1 (p * n + k) e1) ∧ V.cell? ⟨b, 3, none⟩ = some (.int .i64 (d : Int))) 8 (by kernel_rfl) ?_
   refine wpAnyG_tk [8] (some 21) (i := 0) (v := ?vn10) rfl rfl (by kernel_rfl) (fun _ _ _ h => h) (Or.inl ⟨by rfl, ?yn10⟩) T0 ?rn10
   case yn10 => (intro V hSV; obtain ⟨s0, s1⟩ := hSV; go_simp; try with_reducible rfl)
   try simp only [Act.put, sqa, sqz, sqs]
   refine wpAnyG_tk [8] (some 22) (i := 1) (v := ?vn11) rfl rfl (by kernel_rfl) (fun _ _ _ h => h) (Or.inl ⟨by rfl, ?yn11⟩) T0 ?rn11
   case yn11 => (intro V hSV; obtain ⟨s0, s1⟩ := hSV; go_simp; try with_reducible rfl)
   try simp only [Act.put, sqa, sqz, sqs]
   refine wpAnyG_tk [8] (some 23) (i := 2) (v := ?vn12) rfl rfl (by kernel_rfl) (fun _ _ _ h => h) (Or.inl ⟨by rfl, ?yn12⟩) T0 ?rn12
   case yn12 => (intro V hSV; obtain ⟨s0, s1⟩ := hSV; go_simp; try with_reducible rfl)
   try simp only [Act.put, sqa, sqz, sqs]
   refine wpAnyG_tk [8] (some 24) (i := 3) (v := ?vn13) rfl rfl (by kernel_rfl) (fun _ _ _ h => h) (Or.inl ⟨by rfl, ?yn13⟩) T0 ?rn13
   case yn13 => (intro V hSV; obtain ⟨s0, s1⟩ := hSV; go_simp; try with_reducible rfl)
   try simp only [Act.put, sqa, sqz, sqs]
   generalize wr.drew = v4 at *
   refine wpAnyG_one (i := 4) (by kernel_rfl) rfl (fun K hK => ?_)
   go_simp
   with_reducible refine (NL.out _).mono ?_
   rintro e u1 ⟨rfl, b1⟩
   have D1 : Below wr.heap.size wr u1 := D0.trans (b1.mono D0.size)
   have T1 := TS.out _ D1
   refine hK.out _ _ (Or.inr T1) ?_
   clear hK K
   try simp only [Act.put, sqa, sqz, sqs]
   have D2 : Below wr.heap.size wr (u1.alloc (.cells (lac (newK (d : Int)) none 0) 100)) := D1.alloc D1.size _
   have T2 := TS.out _ D2
   have M5 := M3.out.1.next D2
   have NE : ∀ (j : Nat) (u : Value), (lwc (newK (d : Int), none, 0))[j]? = some u → (u1.alloc (.cells (lac (newK (d : Int)) none 0) 100)).cell? ⟨u1.heap.size, j, none⟩ = some u := fun j u hj => by
    have := cell_of (heap_alloc_new u1 (.cells (lac (newK (d : Int)) none 0) 100)) j
    exact this.trans (by rw [← hj]; simp [lwc])
   have hlen : p * n + k ≤ 1000000 := by
    have h2 := N5.out.2
    have h3 := HP.out
    have h4 : p * n ≤ 5 * 8 := Nat.mul_le_mul (by omega) h2
    omega
   have hbase : rb + 1 ≤ (u1.alloc (.cells (lac (newK (d : Int)) none 0) 100)).heap.size := by
    have h4 := M5.r.lt
    omega
   refine wpAnyG_one (i := 5) (by kernel_rfl) rfl (fun K hK => ?_)
   go_simp
   refine hK.out _ _ (Or.inr T2) ?_
   clear hK K
   try simp only [Act.put, sqa, sqz, sqs]
   refine wpAnyG_one (i := 6) (by kernel_rfl) rfl (fun K hK => ?_)
   refine step_app_kat rfl (.tmp 22) (.tmp 26) 30 100 i1 (.agg (zq2 0 0 0 0 none 0 0 false)) 6 64 rfl Tryz.underlying30 KI1.out.1 KI1.out.2.1 KI1.out.2.2.1 KI1.out.2.2.2 rfl (by decide) (by decide) (rb + 1) _ (.slice a1 (p * n + k) e1) (p * n + k) _ (lwc (newK (d : Int), none, 0)) u1.heap.size rfl M5.o1 rfl rfl NE (lwc_one1 _) hlen hbase ?_
   intro y wb ow gw pw
   have M6 := M5.set1 ow gw
   obtain ⟨ay, ey, rfl, -⟩ := W4.sl M6.o1
   have hzz : Bk wb (b + 1) zqZ 34 := by
    have h2 := M5.o1
    have h3 := HRB.out
    have h4 := (M3.out.2.next D2)
    exact h4.kept gw (fun e => by have := (h2.lt e).1; omega)
   have hcr : Bk wb rb _ _ := M5.r.kept gw (fun e => by have := (M5.o1.lt e).1; omega)
   have hcb : Bk wb w.heap.size _ _ := M5.q.kept gw (fun e => by have := (M5.o1.lt e).1; have := M5.lt; omega)
   have T3 : wb.cell? ⟨rb, 10, none⟩ = some (.slice a1 (p * n + k) e1) ∧ wb.cell? ⟨b, 3, none⟩ = some (.int .i64 (d : Int)) := ⟨(hcr.cell 10).trans rfl, by rw [← HB.out]; exact (hcb.cell 3).trans rfl⟩
   have frb := hcr.free 10
   refine hK.out _ _ (Or.inr T3) ?_
   clear hK K
   try simp only [Act.put, sqa]
   refine wpAnyG_tk [8] (some 28) (i := 7) (v := ?vm17) rfl rfl (by kernel_rfl) (fun _ _ _ h => h) (Or.inl ⟨by rfl, ?ym17⟩) T3 ?rm17
   case ym17 => (intro V hSV; obtain ⟨s0, s1⟩ := hSV; go_simp; try with_reducible rfl)
   try simp only [Act.put]
   have c3 := T3.1
   refine wpAnyG_one (i := 8) (by kernel_rfl) rfl (fun K hK => ?_)
   go_simp
   refine hK.out _ _ (Or.inl (by kernel_rfl)) ?_
   clear hK K
   try simp only [Act.put, sqa, sqz, sqs]
   refine wpAnyG_done (by kernel_rfl) ?_ _
   have M4 : Hid (W4 w (wb.setCell ⟨rb, 10, none⟩ (.slice ay (p * n + k + 1) ey)) rb ⟨cw, ch, (n : Int), (d : Int), cr, ci, cb, we, ca⟩ node n d (.slice ay (p * n + k + 1) ey) (.slice a2 (p * n + k) e2) (.slice a3 p e3) (.slice a4 p e4) (p * n + k + 1) (p * n + k) p p ∧ Bk (wb.setCell ⟨rb, 10, none⟩ (.slice ay (p * n + k + 1) ey)) (b + 1) zqZ 34) := ⟨M6, hzz.far (by have := HRB.out; omega)⟩
   clear M3 TS D0 T0 T1 D1 T2 D2 M5 NE hlen hbase M6 hzz hcr hcb T3 frb c3 ow gw pw b1
   generalize (wb.setCell ⟨rb, 10, none⟩ (.slice ay (p * n + k + 1) ey)) = w4 at *
   generalize ay = b1x at *
   generalize ey = f1x at *
   have D2 : Below w4.heap.size w4 (w4.alloc (.cells #[.int .i64 (-1)] 3)) := (Below.refl _ _).alloc (Nat.le_refl _) _
   have M5 := M4.out.1.next D2
   have Z5 := M4.out.2.next D2
   have NE : ∀ (j : Nat) (u : Value), ([.int .i64 (-1)] : List Value)[j]? = some u → (w4.alloc (.cells #[.int .i64 (-1)] 3)).cell? ⟨w4.heap.size, j, none⟩ = some u := fun j u hj => by
    have := cell_of (heap_alloc_new w4 (.cells #[.int .i64 (-1)] 3)) j
    exact this.trans (by rw [← hj]; simp)
   have hlen : p * n + k ≤ 1000000 := by
    have h2 := N5.out.2
    have h3 := HP.out
    have h4 : p * n ≤ 5 * 8 := Nat.mul_le_mul (by omega) h2
    have h5 := HK.out
    omega
   have hbase : rb + 1 ≤ (w4.alloc (.cells #[.int .i64 (-1)] 3)).heap.size := by
    have h4 := M5.r.lt
    omega
   have c2 := (M4.out.1.r.cell 11).trans rfl
   have c3 := (M5.r.cell 11).trans rfl
   go_wp2_with (at_builtin; go_loud (refine wpList_app_kat rfl (.tmp 30) (.tmp 31) 31 3 i2 (.int .i64 0) 1 8 rfl Tryz.underlying31 KI2.out.1 KI2.out.2.1 KI2.out.2.2.1 KI2.out.2.2.2 rfl (by decide) (by decide) (rb + 1) _ (.slice a2 (p * n + k) e2) (p * n + k) _ [.int .i64 (-1)] rfl M5.o2 w4.heap.size rfl rfl NE (vi_one1 _) hlen hbase ?_; intro y wb ow gw pw; have M6 := M5.set2 ow gw; obtain ⟨ay, ey, rfl, -⟩ := W4.sl M6.o2; have hcr : Bk wb rb _ _ := M5.r.kept gw (fun e => by have := (M5.o2.lt e).1; omega); have c4 := (hcr.cell 11).trans rfl; have frb := hcr.free 11; have hzz : Bk wb (b + 1) zqZ 34 := Z5.kept gw (fun e => by have := (M5.o2.lt e).1; have := HRB.out; omega)))
   go_roundw
   case rel =>
    refine ⟨k + 1, HK.out, by go_num, _, _, M6, hzz.far (by have := HRB.out; omega)⟩
   case measure =>
    have := HK.out
    simp [RowKit.intOf]
    omega
end Go.Proofs.YtmmegmonmilkcaaGreatDoor
