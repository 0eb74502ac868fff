/-
  The walk of lives: a Head for the node itself, and a Tail.
-/
import Derived.Test.YtkigeakaedkjpaaKOps
import Derived.Test.YtkigeakaedkjpaaGwC
namespace Go.Proofs.Ytkigeakaedkjpaa
open Go.RowKit

def xab : ByteArray := ⟨#[97, 98]⟩
/-- The document's example. -/
def pA : Pc := gd ⟨0, false, [(5, 0)], xab⟩
theorem pA_fine : Fine pA := fine ⟨0, false, [(5, 0)], xab⟩
theorem pA_hs : pA.hs = [(5, 0)] := by decide +kernel
theorem pA_len : pA.ws.length = 2 := by
  rw [pA_fine.ws_small.2, pA_hs, show pA.x.size = 2 from by decide +kernel]
  rfl
theorem pA_wds : Wds pA.ws 1 fun i => ([(5, 0)] : List (Int × Int)).getD i (0, 0) |>.1 := by
  have := wds_fine pA_fine
  rw [pA_hs] at this
  exact this
theorem two_of {L : List Nat} (h : L.length = 2) : L = [L.getD 0 0, L.getD 1 0] := by
  match L, h with
  | [a, b], _ => rfl
theorem gr_cell {F F' : Nat → Prop} {w w' : World} {g j : Nat} {x : Value} (k : Gr F w w' F') (hg : g < w.heap.size) (ho : ¬ F g) (hc : w.cell? ⟨g, j, none⟩ = some x) : w'.cell? ⟨g, j, none⟩ = some x := by
  rw [World.cell?_of_block (k.block g hg ho)]
  exact hc
set_option maxRecDepth 100000 in
set_option maxHeartbeats 8000000 in
theorem lives_any (w : World) : Calls Try.prog 8 #[] w fun e w' => e = .returned (.bool true) ∧ Below w.heap.size w w' := by
  have BA : Hid (Below w.heap.size w (w.alloc (.cells #[.int .i64 5, .int .i64 0] 31))) := (Below.refl _ _).alloc (Nat.le_refl _) _
  have WC := kwords_any 0 false (some ⟨w.heap.size, 0, none⟩) 1 xab [(5, 0)] (w.alloc (.cells #[.int .i64 5, .int .i64 0] 31)) (by unfold maxLen; simp) (by unfold maxLen; decide) (fun j v hj => ⟨w.heap.size, 0, rfl, by simp, by
    rw [Nat.zero_add, cell_of (heap_alloc_new w (.cells #[.int .i64 5, .int .i64 0] 31)) j]
    simpa [pc] using hj⟩)
  rw [show gd ⟨0, false, [(5, 0)], xab⟩ = pA from rfl] at WC
  have hW := pA_wds
  have hlen := pA_len
  have ft := fun P => thru_find0 (r := 4) hW P 1 0
  have t0 := thru_step (r := 4) hW (p := 1) (ln := 0) (by decide) (i := 0) (by omega)
  have t1 := thru_step (r := 4) hW (p := 1) (ln := 0) (by decide) (i := 1) (by omega)
  have hlt := hW.lt
  generalize pA.ws = L at *
  clear hW
  obtain ⟨x0, hx0⟩ : ∃ x, L.getD 0 0 = x := ⟨_, rfl⟩
  obtain ⟨x1, hx1⟩ : ∃ x, L.getD 1 0 = x := ⟨_, rfl⟩
  have hL : L = [x0, x1] := by rw [← hx0, ← hx1]; exact two_of hlen
  subst hL
  have l0 : x0 < 18446744073709551616 := hlt x0 (by simp)
  have l1 : x1 < 18446744073709551616 := hlt x1 (by simp)
  have C1 : Hid (∀ V b F, Kn V b ⟨4, [], 0, 0, 0, false⟩ F → Calls Try.prog 12 #[.pointer (some ⟨b, 0, none⟩), .int .u64 (x0 : Int)] V fun e w' => ∃ F', e = .returned (.int .i64 0) ∧ Kn w' b ⟨4, [x0], 0, 0, 0, false⟩ F' ∧ Gr F V w' F') := show _ from fun V b F h => lane_put h x0 l0
  have C2 : Hid (∀ V b F, Kn V b ⟨4, [x0], 0, 0, 0, false⟩ F → Calls Try.prog 12 #[.pointer (some ⟨b, 0, none⟩), .int .u64 (x1 : Int)] V fun e w' => ∃ F', e = .returned (.int .i64 0) ∧ Kn w' b ⟨4, [x0, x1], 0, 0, 0, false⟩ F' ∧ Gr F V w' F') := show _ from fun V b F h => lane_put h x1 l1
  have C3 : Hid (∀ V b F, Kn V b ⟨4, [x0, x1], 0, 0, 0, false⟩ F → Calls Try.prog 13 #[.pointer (some ⟨b, 0, none⟩), .int .i64 5, .func (.func 26) #[] #[]] V fun e w' => ∃ F', e = .returned (.bool true) ∧ Kn w' b ⟨4, [x0, x1], 2, 0, 0, false⟩ F' ∧ Gr F V w' F') := show _ from fun V b F h => by
    have := lane_find h 5 0 _ _ (none_way V)
    rw [show findK ⟨4, [x0, x1], 0, 0, 0, false⟩ 5 0 = _ from ft 0] at this
    exact this
  have C4 : Hid (∀ V b F, Kn V b ⟨4, [x0, x1], 2, 0, 0, false⟩ F → Calls Try.prog 19 #[.pointer (some ⟨b, 0, none⟩)] V fun e w' => ∃ F', e = .returned (.tuple #[.agg #[.int .i64 0, .int .i64 0, .int .u64 (x0 : Int), .bool false, .bool false], .int .i64 0]) ∧ Kn w' b ⟨4, [x1], 2, 0, 0, false⟩ F' ∧ Gr F V w' F') := show _ from fun V b F h => by
    have := lane_take h
    rw [show takeK ⟨4, [x0, x1], 2, 0, 0, false⟩ = _ from t0] at this
    exact this
  have C5 : Hid (∀ V b F, Kn V b ⟨4, [x1], 2, 0, 0, false⟩ F → Calls Try.prog 19 #[.pointer (some ⟨b, 0, none⟩)] V fun e w' => ∃ F', e = .returned (.tuple #[.agg #[.int .i64 0, .int .i64 0, .int .u64 (x1 : Int), .bool false, .bool true], .int .i64 0]) ∧ Kn w' b ⟨4, [], 0, 0, 0, false⟩ F' ∧ Gr F V w' F') := show _ from fun V b F h => by
    have := lane_take h
    rw [show takeK ⟨4, [x1], 2, 0, 0, false⟩ = _ from t1] at this
    exact this
  have C6 : Hid (∀ V b F, Kn V b ⟨4, [], 0, 0, 0, false⟩ F → Calls Try.prog 15 #[.pointer (some ⟨b, 0, none⟩)] V fun e w' => e = .returned (.int .i64 0) ∧ Below V.heap.size V w') := show _ from fun V b F h => lane_phase h
  have C7 : Hid (∀ V b F, Kn V b ⟨4, [], 0, 0, 0, false⟩ F → Calls Try.prog 24 #[.pointer (some ⟨b, 0, none⟩)] V fun e w' => e = .returned (.int .i64 4) ∧ Below V.heap.size V w') := show _ from fun V b F h => lane_room h
  have NC := fun V => lane_new 4 V
  clear hx0 hx1 ft t0 t1 hlt hlen
  simp only [pcv, pcc, xab, List.length_cons, List.length_nil, Nat.zero_add] at WC
  go_enter Try.func8, Try.ntmps8
  go_wp2_with fail
  go_at_call 10
  with_reducible refine WC.mono ?_
  rintro e w1 ⟨la, lcap, rfl, hcap, rd1, hb1⟩
  have B1 : Hid (Below w.heap.size w w1) := BA.out.trans (hb1.mono BA.out.size)
  obtain ⟨g, o, rfl, hg, k0⟩ := rd1 0 (.int .u64 (x0 : Int)) rfl
  obtain ⟨g', o', e', -, k1⟩ := rd1 1 (.int .u64 (x1 : Int)) rfl
  simp only [Option.some.injEq, Addr.mk.injEq, and_true] at e'
  obtain ⟨rfl, rfl⟩ := e'
  rw [Nat.add_zero] at k0
  clear WC BA hb1 rd1
  go_wp2_with fail
  go_at_call 11
  with_reducible refine (NC _).mono ?_
  rintro e w2 ⟨b, F0, rfl, n0, f0, hb2⟩
  have K0 : w2.cell? ⟨g, o, none⟩ = some (.int .u64 (x0 : Int)) := (hb2.cell (p := ⟨g, o, none⟩) hg).trans k0
  have K1 : w2.cell? ⟨g, o + 1, none⟩ = some (.int .u64 (x1 : Int)) := (hb2.cell (p := ⟨g, o + 1, none⟩) hg).trans k1
  have G2 : g < w2.heap.size := Nat.lt_of_lt_of_le hg hb2.size
  have O2 : Hid (¬ F0 g) := show ¬ F0 g from fun c => by have := f0 g c; omega
  have L2 : Hid (KSt w w2 b ⟨4, [], 0, 0, 0, false⟩ F0) := show KSt w w2 b _ F0 from ⟨n0, fun q hq => Nat.le_trans B1.out.size (f0 q hq), B1.out.trans (hb2.mono B1.out.size)⟩
  clear NC n0 f0 hb2 k0 k1 hg B1
  go_wp2_with fail
  have D0 : w2.drew.cell? ⟨g, o, none⟩ = some (.int .u64 (x0 : Int)) := K0
  have D1 : w2.drew.cell? ⟨g, o + 1, none⟩ = some (.int .u64 (x1 : Int)) := K1
  have S1 := And.intro D0 D1
  have hbd : Below w2.heap.size w2 w2.drew := (Below.refl _ _).drew
  have H1 := C1.out w2.drew b F0 (L2.out.next hbd).lk
  clear D0 D1
  go_region_held3 (fun v => v.cell? ⟨g, o, none⟩ = some (.int .u64 (x0 : Int)) ∧ v.cell? ⟨g, o + 1, none⟩ = some (.int .u64 (x1 : Int)))
    (first | exact S3 | exact S2 | exact S1 | go_keep)
    (first
      | (go_at_call_of 12 x0; (with_reducible refine H1.mono ?_); rintro e w3 ⟨F1, rfl, n1, g1⟩; have S2 := And.intro (gr_cell g1 G2 O2.out S1.1) (gr_cell g1 G2 O2.out S1.2); have H2 := C2.out w3 b F1 n1)
      | (go_at_call_of 12 x1; (with_reducible refine H2.mono ?_); rintro e w4 ⟨F2, rfl, n2, g2⟩; have S3 := And.intro (gr_cell g2 (Nat.lt_of_lt_of_le G2 g1.size) (g1.off O2.out G2) S2.1) (gr_cell g2 (Nat.lt_of_lt_of_le G2 g1.size) (g1.off O2.out G2) S2.2))
      | fail)
  have L4 : Hid (KSt w w4 b ⟨4, [x0, x1], 0, 0, 0, false⟩ F2) := ((L2.out.next hbd).step n1 g1).step n2 g2
  have O4 : Hid (¬ F2 g ∧ g < w4.heap.size) := show _ ∧ _ from ⟨g2.off (g1.off O2.out G2) (Nat.lt_of_lt_of_le G2 g1.size), Nat.lt_of_lt_of_le (Nat.lt_of_lt_of_le G2 g1.size) g2.size⟩
  have S4 : Hid (w4.cell? ⟨g, o + 1, none⟩ = some (.int .u64 (x1 : Int))) := S3.2
  clear S1 S2 S3 H1 H2 n1 g1 n2 g2 L2 O2 G2 K0 K1 C1 C2 hbd
  have H3 := C3.out w4 b F2 L4.out.lk
  go_wp2_with fail
  go_at_call 13
  with_reducible refine H3.mono ?_
  rintro e w5 ⟨F3, rfl, n3, g3⟩
  have L5 : Hid (KSt w w5 b ⟨4, [x0, x1], 2, 0, 0, false⟩ F3) := L4.out.step n3 g3
  have O5 : Hid (¬ F3 g ∧ g < w5.heap.size) := show _ ∧ _ from ⟨g3.off O4.out.1 O4.out.2, Nat.lt_of_lt_of_le O4.out.2 g3.size⟩
  have S5 : Hid (w5.cell? ⟨g, o + 1, none⟩ = some (.int .u64 (x1 : Int))) := gr_cell g3 O4.out.2 O4.out.1 S4.out
  clear L4 O4 S4 n3 g3 H3 C3
  have H4 := C4.out w5 b F3 L5.out.lk
  go_upto_region 6 with (go_at_call 19; with_reducible refine H4.mono ?_; rintro e w6 ⟨F4, rfl, n4, g4⟩)
  have ha6 : Below w6.heap.size w6 (w6.alloc (.cells #[.int .i64 0, .int .i64 0, .int .u64 (x0 : Int), .bool false, .bool false] 43)) := (Below.refl _ _).alloc (Nat.le_refl _) _
  have L6 : Hid (KSt w (w6.alloc (.cells #[.int .i64 0, .int .i64 0, .int .u64 (x0 : Int), .bool false, .bool false] 43)) b ⟨4, [x1], 2, 0, 0, false⟩ F4) := (L5.out.step n4 g4).alloc _
  have O6 : Hid (¬ F4 g ∧ g < (w6.alloc (.cells #[.int .i64 0, .int .i64 0, .int .u64 (x0 : Int), .bool false, .bool false] 43)).heap.size) := show _ ∧ _ from ⟨g4.off O5.out.1 O5.out.2, Nat.lt_of_lt_of_le O5.out.2 (Nat.le_trans g4.size ha6.size)⟩
  have S6 : Hid ((w6.alloc (.cells #[.int .i64 0, .int .i64 0, .int .u64 (x0 : Int), .bool false, .bool false] 43)).cell? ⟨g, o + 1, none⟩ = some (.int .u64 (x1 : Int))) := (ha6.cell (p := ⟨g, o + 1, none⟩) (Nat.lt_of_lt_of_le O5.out.2 g4.size)).trans (gr_cell g4 O5.out.2 O5.out.1 S5.out)
  have A6 : Hid (Bk (w6.alloc (.cells #[.int .i64 0, .int .i64 0, .int .u64 (x0 : Int), .bool false, .bool false] 43)) w6.heap.size #[.int .i64 0, .int .i64 0, .int .u64 (x0 : Int), .bool false, .bool false] 43) := Bk.new _ _ _
  have N6 : Hid (¬ F4 w6.heap.size) := show ¬ F4 w6.heap.size from (L5.out.step n4 g4).off (Nat.le_refl _)
  clear L5 O5 S5 n4 g4 H4 C4 ha6
  generalize w6.alloc (.cells #[.int .i64 0, .int .i64 0, .int .u64 (x0 : Int), .bool false, .bool false] 43) = v6 at *
  generalize w6.heap.size = ka at *
  have H5 := C5.out v6 b F4 L6.out.lk
  go_upto_region 7 with (go_at_call 19; with_reducible refine H5.mono ?_; rintro e w7 ⟨F5, rfl, n5, g5⟩)
  have ha7 : Below w7.heap.size w7 (w7.alloc (.cells #[.int .i64 0, .int .i64 0, .int .u64 (x1 : Int), .bool false, .bool true] 43)) := (Below.refl _ _).alloc (Nat.le_refl _) _
  have L7 : Hid (KSt w (w7.alloc (.cells #[.int .i64 0, .int .i64 0, .int .u64 (x1 : Int), .bool false, .bool true] 43)) b ⟨4, [], 0, 0, 0, false⟩ F5) := (L6.out.step n5 g5).alloc _
  have S7 : (w7.alloc (.cells #[.int .i64 0, .int .i64 0, .int .u64 (x1 : Int), .bool false, .bool true] 43)).cell? ⟨g, o + 1, none⟩ = some (.int .u64 (x1 : Int)) := (ha7.cell (p := ⟨g, o + 1, none⟩) (Nat.lt_of_lt_of_le O6.out.2 g5.size)).trans (gr_cell g5 O6.out.2 O6.out.1 S6.out)
  have Z7 : g < (w7.alloc (.cells #[.int .i64 0, .int .i64 0, .int .u64 (x1 : Int), .bool false, .bool true] 43)).heap.size := Nat.lt_of_lt_of_le O6.out.2 (Nat.le_trans g5.size ha7.size)
  have A7 : Bk (w7.alloc (.cells #[.int .i64 0, .int .i64 0, .int .u64 (x1 : Int), .bool false, .bool true] 43)) ka #[.int .i64 0, .int .i64 0, .int .u64 (x0 : Int), .bool false, .bool false] 43 := (A6.out.gr g5 N6.out).alloc _
  have D7 : Bk (w7.alloc (.cells #[.int .i64 0, .int .i64 0, .int .u64 (x1 : Int), .bool false, .bool true] 43)) w7.heap.size #[.int .i64 0, .int .i64 0, .int .u64 (x1 : Int), .bool false, .bool true] 43 := Bk.new _ _ _
  clear L6 O6 S6 n5 g5 H5 C5 ha7 A6 N6
  generalize w7.alloc (.cells #[.int .i64 0, .int .i64 0, .int .u64 (x1 : Int), .bool false, .bool true] 43) = v7 at *
  generalize w7.heap.size = kb at *
  have q0 := fun p : Gw v7 => p.cell (a := ⟨g, o + 1, none⟩) Z7 S7
  have a0 := fun p : Gw v7 => p.cell (a := ⟨ka, 0, none⟩) A7.lt (A7.cell 0)
  have a4 := fun p : Gw v7 => p.cell (a := ⟨ka, 4, none⟩) A7.lt (A7.cell 4)
  have b2 := fun p : Gw v7 => p.cell (a := ⟨kb, 2, none⟩) D7.lt (D7.cell 2)
  have b4 := fun p : Gw v7 => p.cell (a := ⟨kb, 4, none⟩) D7.lt (D7.cell 4)
  have PH := fun p : Gw v7 => C6.out p.v b F5 (L7.out.next p.le).lk
  have RM := fun p : Gw v7 => C7.out p.v b F5 (L7.out.next p.le).lk
  clear A7 D7 S7 Z7 C6 C7
  go_wp2_with fail
  refine region_gw (by kernel_rfl) (by kernel_rfl) ?_
  repeat (first | go_big_quiet_skip | quiet_step ((first | (go_at_call 15; exact quiet_below (PH _)) | (go_at_call 24; exact quiet_below (RM _)))))
  refine wpQuiet_nil ?_
  intro v8 hw'
  obtain ⟨⟨u8, hb8⟩, hw''⟩ := hw'
  obtain rfl : v8 = u8 := hw''
  have B8 : Hid (Below w.heap.size w v8) := (L7.out.next hb8).below
  clear q0 a0 a4 b2 b4 PH RM L7 hb8
  go_wp2
  go_ret
  exact ⟨rfl, B8.out⟩
end Go.Proofs.Ytkigeakaedkjpaa
