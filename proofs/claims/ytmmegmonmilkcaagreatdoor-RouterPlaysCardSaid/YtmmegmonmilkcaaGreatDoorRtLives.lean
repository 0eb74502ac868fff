/-
 The walk of lives: a Head for the node East, and its Tail.
-/
import Derived.Test.YtmmegmonmilkcaaGreatDoorRtLiv
import Derived.Test.YtmmegmonmilkcaaGreatDoorRtO
namespace Go.Proofs.YtmmegmonmilkcaaGreatDoor
open Go.RowKit
set_option maxRecDepth 100000 in
set_option maxHeartbeats 8000000 in
theorem lives_any (w : World) (hT : G.Tabs w) (hS : G.Steps w) : Calls Tryz.prog 9 #[] w fun e w' => e = .returned (.bool true) ∧ Below w.heap.size w w' := by
 have BA : Hid (Below w.heap.size w (w.alloc (.cells #[.int .i64 1, .int .i64 0] 76))) := (Below.refl _ _).alloc (Nat.le_refl _) _
 have WC := p1_fine.rwords (some ⟨w.heap.size, 0, none⟩) 1 (w.alloc (.cells #[.int .i64 1, .int .i64 0] 76)) (fun j v hj => ⟨w.heap.size, 0, rfl, by simp, by
  rw [Nat.zero_add, cell_of (heap_alloc_new w (.cells #[.int .i64 1, .int .i64 0] 76)) j]
  simpa [pc, p1] using hj⟩)
 obtain ⟨x0, x1, S1, S2, S3, S4, S5, S6, ⟨p5, l5, y5, f5, e5⟩, ⟨p6, l6, y6, f6, e6⟩, V⟩ := livR
 have C0 : Hid (∀ V, Calls Tryz.prog 12 #[.agg (zq5 2 1 1 2 1 1 1 false false), .int .i64 0] V fun e w' => ∃ p F, e = .returned (.pointer (some ⟨p, 0, none⟩)) ∧ Rt w' p c1 (newRt 1 2 0) F ∧ (∀ g, F g → V.heap.size ≤ g) ∧ Below V.heap.size V w') := show _ from fun V => router_new c1 c1_ok 0 c1_node V
 have C1 : Hid (∀ V b F, Rt V b c1 (newRt 1 2 0) F → Calls Tryz.prog 18 (zq10 (some ⟨b, 0, none⟩) 0 0 (x0 : Int)) V fun e w' => ∃ F', e = .returned (.int .i64 0) ∧ Rt w' b c1 S1 F' ∧ Gr F V w' F') := show _ from fun V' b F h => by
  have := router_put h 0 0 x0 V.l0
  rw [V.s1] at this
  exact this
 have C2 : Hid (∀ V b F, Rt V b c1 S1 F → Calls Tryz.prog 18 (zq10 (some ⟨b, 0, none⟩) 0 0 (x1 : Int)) V fun e w' => ∃ F', e = .returned (.int .i64 0) ∧ Rt w' b c1 S2 F' ∧ Gr F V w' F') := show _ from fun V' b F h => by
  have := router_put h 0 0 x1 V.l1
  rw [V.s2] at this
  exact this
 have C3 : Hid (∀ V b F, Rt V b c1 S2 F → G.Tabs V → G.Steps V → Calls Tryz.prog 20 (zq11 (some ⟨b, 0, none⟩) 0 0 0) V fun e w' => ∃ F', e = .returned (.bool true) ∧ Rt w' b c1 S3 F' ∧ Gr F V w' F') := show _ from fun V' b F h t s => by
  have := router_find h t s 0 0 0 (by decide) (by decide)
  rw [V.n2, V.s3] at this
  exact this
 have C4 : Hid (∀ V b F, Rt V b c1 S3 F → Calls Tryz.prog 22 #[.pointer (some ⟨b, 0, none⟩), .int .i64 0, .int .i64 0] V fun e w' => ∃ F', e = .returned (.bool true) ∧ Rt w' b c1 S4 F' ∧ Gr F V w' F') := show _ from fun V' b F h => by
  have := router_give h 0 0
  rw [V.s4] at this
  exact this
 have O4 : Hid (∀ V b F, Rt V b c1 S4 F → Calls Tryz.prog 27 #[.pointer (some ⟨b, 0, none⟩), .int .i64 1, .int .i64 0] V fun e w' => e = .returned (.tuple #[.int .i64 0, .int .i64 0, .bool true]) ∧ Below V.heap.size V w') := show _ from fun V' b F h => by
  have := router_owner h 1 0
  rw [V.h4] at this
  exact this
 have C5 : Hid (∀ V b F, Rt V b c1 S4 F → Calls Tryz.prog 24 #[.pointer (some ⟨b, 0, none⟩), .int .i64 1, .func (.func 31) #[] #[]] V fun e w' => ∃ F', e = .returned (.tuple #[.agg (zq1 p5 l5 (x0 : Int) f5 e5 0 0), .bool true]) ∧ Rt w' b c1 S5 F' ∧ Gr F V w' F') := show _ from fun V' b F h => by
  have := router_move h 1 _ _ _ (all_may V')
  have wx : y5 = x0 := V.w5
  rw [V.s5, V.n4, wx] at this
  simp only [Nat.zero_div, Nat.zero_mod] at this
  exact this
 have C6 : Hid (∀ V b F, Rt V b c1 S5 F → Calls Tryz.prog 24 #[.pointer (some ⟨b, 0, none⟩), .int .i64 1, .func (.func 31) #[] #[]] V fun e w' => ∃ F', e = .returned (.tuple #[.agg (zq1 p6 l6 (y6 : Int) f6 true 0 0), .bool true]) ∧ Rt w' b c1 S6 F' ∧ Gr F V w' F') := show _ from fun V' b F h => by
  have := router_move h 1 _ _ _ (all_may V')
  have wx : e6 = true := V.e6
  rw [V.s6, V.n5, wx] at this
  simp only [Nat.zero_div, Nat.zero_mod] at this
  exact this
 have O6 : Hid (∀ V b F, Rt V b c1 S6 F → Calls Tryz.prog 27 #[.pointer (some ⟨b, 0, none⟩), .int .i64 1, .int .i64 0] V fun e w' => e = .returned (.tuple #[.int .i64 0, .int .i64 0, .bool false]) ∧ Below V.heap.size V w') := show _ from fun V' b F h => by
  have := router_owner h 1 0
  rw [V.h6] at this
  exact this
 have I6 : Hid (∀ V b F, Rt V b c1 S6 F → Calls Tryz.prog 32 #[.pointer (some ⟨b, 0, none⟩)] V fun e w' => e = .returned (.bool true) ∧ Below V.heap.size V w') := show _ from fun V' b F h => by
  have := router_idle h
  rw [V.i6] at this
  exact this
 rw [V.ws] at WC
 obtain ⟨Y6, hY6⟩ : ∃ Y : Int, (y6 : Int) = Y := ⟨_, rfl⟩
 rw [hY6] at C6
 clear V hY6
 generalize newRt 1 2 0 = S0 at *
 simp only [p1, pcv, pcc, List.length_cons, List.length_nil, Nat.zero_add] at WC
 have HT : Hid (G.Tabs w ∧ G.Steps w) := show _ ∧ _ from ⟨hT, hS⟩
 clear hT hS
 go_enter Tryz.func9, Tryz.ntmps9
 go_wp2_with fail
 go_at_call 30
 with_reducible refine WC.mono ?_
 rintro e w1 ⟨la, lcap, rfl, hcap, rd1, hb1⟩
 have B1 : Hid (Below w.heap.size w w1) := BA.out.trans (hb1.mono BA.out.size)
 obtain ⟨g, o, rfl, hg, k0⟩ := rd1 0 (.int .u64 (x0 : Int)) rfl
 obtain ⟨g', o', e', -, k1⟩ := rd1 1 (.int .u64 (x1 : Int)) rfl
 simp only [Option.some.injEq, Addr.mk.injEq, and_true] at e'
 obtain ⟨rfl, rfl⟩ := e'
 rw [Nat.add_zero] at k0
 clear WC BA hb1 rd1
 go_wp2_with fail
 go_at_call 37
 with_reducible refine (some_any _).mono ?_
 rintro e w2 ⟨rfl, hb2⟩
 go_wp2_with fail
 go_at_call 12
 with_reducible refine (C0.out _).mono ?_
 rintro e w3 ⟨b, F0, rfl, n0, f0, hb3⟩
 have hb23 : Below w1.heap.size w1 w3 := hb2.trans (hb3.mono hb2.size)
 have K0 : w3.cell? ⟨g, o, none⟩ = some (.int .u64 (x0 : Int)) := (hb23.cell (p := ⟨g, o, none⟩) hg).trans k0
 have K1 : w3.cell? ⟨g, o + 1, none⟩ = some (.int .u64 (x1 : Int)) := (hb23.cell (p := ⟨g, o + 1, none⟩) hg).trans k1
 have G3 : g < w3.heap.size := Nat.lt_of_lt_of_le hg hb23.size
 have O3 : Hid (¬ F0 g) := show ¬ F0 g from fun c => by have := f0 g c; have := hb2.size; omega
 have L3 : Hid (RSt w w3 b c1 S0 F0) := show RSt w w3 b _ _ F0 from ⟨n0, fun q hq => Nat.le_trans B1.out.size (Nat.le_trans hb2.size (f0 q hq)), B1.out.trans (hb23.mono B1.out.size)⟩
 clear n0 f0 hb2 hb3 hb23 k0 k1 hg B1 C0
 go_wp2_with fail
 have D0 : w3.drew.cell? ⟨g, o, none⟩ = some (.int .u64 (x0 : Int)) := K0
 have D1 : w3.drew.cell? ⟨g, o + 1, none⟩ = some (.int .u64 (x1 : Int)) := K1
 have T1 := And.intro D0 D1
 have hbd : Below w3.heap.size w3 w3.drew := (Below.refl _ _).drew
 have H1 := C1.out w3.drew b F0 (L3.out.next hbd).rt
 clear D0 D1
 go_region_held3 (fun v => v.cell? ⟨g, o, none⟩ = some (.int .u64 (x0 : Int)) ∧ v.cell? ⟨g, o + 1, none⟩ = some (.int .u64 (x1 : Int)))
  (first | exact T3 | exact T2 | exact T1 | go_keep)
  (first
   | (go_at_call_of 18 x0; (with_reducible refine H1.mono ?_); rintro e w4 ⟨F1, rfl, n1, g1⟩; have T2 := And.intro (gr_cell g1 G3 O3.out T1.1) (gr_cell g1 G3 O3.out T1.2); have H2 := C2.out w4 b F1 n1)
   | (go_at_call_of 18 x1; (with_reducible refine H2.mono ?_); rintro e w5 ⟨F2, rfl, n2, g2⟩; have T3 := And.intro (gr_cell g2 (Nat.lt_of_lt_of_le G3 g1.size) (g1.off O3.out G3) T2.1) (gr_cell g2 (Nat.lt_of_lt_of_le G3 g1.size) (g1.off O3.out G3) T2.2))
   | fail)
 have L5 : Hid _ := ((L3.out.next hbd).step n1 g1).step n2 g2
 have O5 : Hid (¬ F2 g ∧ g < w5.heap.size) := show _ ∧ _ from ⟨g2.off (g1.off O3.out G3) (Nat.lt_of_lt_of_le G3 g1.size), Nat.lt_of_lt_of_le (Nat.lt_of_lt_of_le G3 g1.size) g2.size⟩
 have K5 : Hid (w5.cell? ⟨g, o, none⟩ = some (.int .u64 (x0 : Int))) := T3.1
 clear T1 T2 T3 H1 H2 n1 g1 n2 g2 L3 O3 G3 K0 K1 C1 C2 hbd
 have H3 := C3.out w5 b F2 L5.out.rt (L5.out.tabs HT.out.1) (L5.out.steps HT.out.2)
 go_wp2_with fail
 go_at_call 20
 with_reducible refine H3.mono ?_
 rintro e w6 ⟨F3, rfl, n3, g3⟩
 have H4 := C4.out w6 b F3 n3
 go_wp2_with fail
 go_at_call 22
 with_reducible refine H4.mono ?_
 rintro e w7 ⟨F4, rfl, n4, g4⟩
 have L7 : Hid _ := (L5.out.step n3 g3).step n4 g4
 have O7 : Hid (¬ F4 g ∧ g < w7.heap.size) := show _ ∧ _ from ⟨g4.off (g3.off O5.out.1 O5.out.2) (Nat.lt_of_lt_of_le O5.out.2 g3.size), Nat.lt_of_lt_of_le (Nat.lt_of_lt_of_le O5.out.2 g3.size) g4.size⟩
 have K7 : Hid (w7.cell? ⟨g, o, none⟩ = some (.int .u64 (x0 : Int))) := gr_cell g4 (Nat.lt_of_lt_of_le O5.out.2 g3.size) (g3.off O5.out.1 O5.out.2) (gr_cell g3 O5.out.2 O5.out.1 K5.out)
 clear L5 O5 K5 n3 g3 n4 g4 H3 H4 C3 C4 HT
 have H5 := O4.out w7 b F4 L7.out.rt
 go_wp2_with fail
 go_at_call 27
 with_reducible refine H5.mono ?_
 rintro e w8 ⟨rfl, hb8⟩
 have L8 : Hid _ := L7.out.next hb8
 have O8 : Hid (¬ F4 g ∧ g < w8.heap.size) := show _ ∧ _ from ⟨O7.out.1, Nat.lt_of_lt_of_le O7.out.2 hb8.size⟩
 have K8 : Hid (w8.cell? ⟨g, o, none⟩ = some (.int .u64 (x0 : Int))) := (hb8.cell (p := ⟨g, o, none⟩) O7.out.2).trans K7.out
 clear L7 O7 K7 hb8 H5 O4
 have H6 := C5.out w8 b F4 L8.out.rt
 go_upto_region 9 with (go_at_call 24; with_reducible refine H6.mono ?_; rintro e w9 ⟨F5, rfl, n5, g5⟩)
 have ha : Below w9.heap.size w9 (w9.alloc (.cells (zq1 p5 l5 (x0 : Int) f5 e5 0 0) 63)) := (Below.refl _ _).alloc (Nat.le_refl _) _
 have L9 : Hid (RSt w (w9.alloc (.cells (zq1 p5 l5 (x0 : Int) f5 e5 0 0) 63)) b c1 S5 F5) := (L8.out.step n5 g5).alloc _
 have O9 : Hid (¬ F5 g ∧ g < (w9.alloc (.cells (zq1 p5 l5 (x0 : Int) f5 e5 0 0) 63)).heap.size) := show _ ∧ _ from ⟨g5.off O8.out.1 O8.out.2, Nat.lt_of_lt_of_le O8.out.2 (Nat.le_trans g5.size ha.size)⟩
 have K9 : Hid ((w9.alloc (.cells (zq1 p5 l5 (x0 : Int) f5 e5 0 0) 63)).cell? ⟨g, o, none⟩ = some (.int .u64 (x0 : Int))) := (ha.cell (p := ⟨g, o, none⟩) (Nat.lt_of_lt_of_le O8.out.2 g5.size)).trans (gr_cell g5 O8.out.2 O8.out.1 K8.out)
 have A9 : Hid (Bk (w9.alloc (.cells (zq1 p5 l5 (x0 : Int) f5 e5 0 0) 63)) w9.heap.size (zq1 p5 l5 (x0 : Int) f5 e5 0 0) 63) := Bk.new _ _ _
 have N9 : Hid (¬ F5 w9.heap.size) := show ¬ F5 w9.heap.size from (L8.out.step n5 g5).off (Nat.le_refl _)
 clear L8 O8 K8 n5 g5 H6 C5 ha
 generalize w9.alloc (.cells (zq1 p5 l5 (x0 : Int) f5 e5 0 0) 63) = v9 at *
 generalize w9.heap.size = ka at *
 have H7 := C6.out v9 b F5 L9.out.rt
 go_upto_region 10 with (go_at_call 24; with_reducible refine H7.mono ?_; rintro e wa ⟨F6, rfl, n6, g6⟩)
 have ha : Below wa.heap.size wa (wa.alloc (.cells (zq1 p6 l6 Y6 f6 true 0 0) 63)) := (Below.refl _ _).alloc (Nat.le_refl _) _
 have La : Hid (RSt w (wa.alloc (.cells (zq1 p6 l6 Y6 f6 true 0 0) 63)) b c1 S6 F6) := (L9.out.step n6 g6).alloc _
 have Ka : Hid ((wa.alloc (.cells (zq1 p6 l6 Y6 f6 true 0 0) 63)).cell? ⟨g, o, none⟩ = some (.int .u64 (x0 : Int))) := (ha.cell (p := ⟨g, o, none⟩) (Nat.lt_of_lt_of_le O9.out.2 g6.size)).trans (gr_cell g6 O9.out.2 O9.out.1 K9.out)
 have Ga : g < (wa.alloc (.cells (zq1 p6 l6 Y6 f6 true 0 0) 63)).heap.size := Nat.lt_of_lt_of_le O9.out.2 (Nat.le_trans g6.size ha.size)
 have Aa : Hid (Bk (wa.alloc (.cells (zq1 p6 l6 Y6 f6 true 0 0) 63)) ka (zq1 p5 l5 (x0 : Int) f5 e5 0 0) 63) := (A9.out.gr g6 N9.out).alloc _
 have Da : Hid (Bk (wa.alloc (.cells (zq1 p6 l6 Y6 f6 true 0 0) 63)) wa.heap.size (zq1 p6 l6 Y6 f6 true 0 0) 63) := Bk.new _ _ _
 clear L9 O9 K9 n6 g6 H7 C6 ha A9 N9
 generalize wa.alloc (.cells (zq1 p6 l6 Y6 f6 true 0 0) 63) = va at *
 generalize wa.heap.size = kb at *
 have H8 := O6.out va b F6 La.out.rt
 go_wp2_with fail
 go_at_call 27
 with_reducible refine H8.mono ?_
 rintro e vb ⟨rfl, hbb⟩
 have Lb : Hid _ := La.out.next hbb
 have q0 := fun p : Gw vb => p.cell (a := ⟨g, o, none⟩) (Nat.lt_of_lt_of_le Ga hbb.size) ((hbb.cell (p := ⟨g, o, none⟩) Ga).trans Ka.out)
 have a2 := fun p : Gw vb => p.cell (a := ⟨ka, 2, none⟩) (Aa.out.next hbb).lt ((Aa.out.next hbb).cell 2)
 have b4 := fun p : Gw vb => p.cell (a := ⟨kb, 4, none⟩) (Da.out.next hbb).lt ((Da.out.next hbb).cell 4)
 have ID := fun p : Gw vb => I6.out p.v b F6 (Lb.out.next p.le).rt
 clear H8 O6 La Ka Ga Aa Da I6 hbb
 go_wp2_with fail
 refine region_gw (by kernel_rfl) (by kernel_rfl) ?_
 repeat (first | go_big_quiet_skip | quiet_step ((go_at_call 32; exact quiet_below (ID _))))
 refine wpQuiet_nil ?_
 intro v8 hw'
 obtain ⟨⟨u8, hb8⟩, hw''⟩ := hw'
 obtain rfl : v8 = u8 := hw''
 have B8 : Hid (Below w.heap.size w v8) := (Lb.out.next hb8).below
 clear q0 a2 b4 ID Lb hb8
 go_wp2
 go_ret
 exact ⟨rfl, B8.out⟩
end Go.Proofs.YtmmegmonmilkcaaGreatDoor
