/-
  The walk of lives: the document's example.
-/
import Derived.Test.YtihfekcdghmkhaaLOps
namespace Go.Proofs.Ytihfekcdghmkhaa
open Go.RowKit
open RC (Cl cc cv zc cc_len cc_at)

abbrev lsA : LS := ⟨1, 1, 4, [1], [], [0], []⟩
abbrev lsB : LS := ⟨1, 1, 4, [0], [⟨0, 7⟩], [0], []⟩
abbrev lsC : LS := ⟨1, 1, 4, [0], [], [1], []⟩
abbrev lsD : LS := ⟨1, 1, 4, [0], [], [0], [0]⟩
set_option maxRecDepth 100000 in
set_option maxHeartbeats 4000000 in
theorem lives_any (w : World) : Calls Try.prog 10 #[] w fun e w' => e = .returned (.bool true) ∧ Below w.heap.size w w' := by
  have NC := link_new 1 1 4 w
  rw [show newS 1 1 4 = lsA from rfl] at NC
  have C1 : Hid (∀ V b F, Lk V b lsA F → Calls Try.prog 30 #[.pointer (some ⟨b, 0, none⟩), .agg #[.int .i64 0, .int .u64 7]] V fun e w' => ∃ F', e = .returned (.int .i64 0) ∧ Lk w' b lsB F' ∧ Gr F V w' F') := show _ from fun V b F h => link_send h 0 7
  have C2 : Hid (∀ V b F, Lk V b lsB F → Calls Try.prog 26 #[.pointer (some ⟨b, 0, none⟩)] V fun e w' => ∃ F', e = .returned (.tuple #[.agg #[.int .i64 0, .int .u64 7], .int .i64 0]) ∧ Lk w' b lsC F' ∧ Gr F V w' F') := show _ from fun V b F h => link_carry h
  have C3 : Hid (∀ V b F, Lk V b lsC F → Calls Try.prog 30 #[.pointer (some ⟨b, 0, none⟩), .agg #[.int .i64 0, .int .u64 8]] V fun e w' => ∃ F', e = .returned (.int .i64 8) ∧ Lk w' b lsC F' ∧ Gr F V w' F') := show _ from fun V b F h => link_send h 0 8
  have C4 : Hid (∀ V b F, Lk V b lsC F → Calls Try.prog 27 #[.pointer (some ⟨b, 0, none⟩), .int .i64 0] V fun e w' => ∃ F', e = .returned (.int .i64 0) ∧ Lk w' b lsD F' ∧ Gr F V w' F') := show _ from fun V b F h => link_taken h 0
  have C5 : Hid (∀ V b F, Lk V b lsD F → Calls Try.prog 28 #[.pointer (some ⟨b, 0, none⟩)] V fun e w' => ∃ F', e = .returned (.int .i64 0) ∧ Lk w' b lsA F' ∧ Gr F V w' F') := show _ from fun V b F h => link_credit h
  have C6 : Hid (∀ V b F, Lk V b lsA F → Calls Try.prog 23 #[.pointer (some ⟨b, 0, none⟩), .int .i64 0] V fun e w' => e = .returned (.bool true) ∧ Below V.heap.size V w') := show _ from fun V b F h => link_may h 0
  have C7 : Hid (∀ V b F, Lk V b lsA F → Calls Try.prog 25 #[.pointer (some ⟨b, 0, none⟩), .int .i64 0] V fun e w' => e = .returned (.int .i64 1) ∧ Below V.heap.size V w') := show _ from fun V b F h => link_sum h 0
  have C8 : Hid (∀ V b F, Lk V b lsA F → Calls Try.prog 29 #[.pointer (some ⟨b, 0, none⟩)] V fun e w' => e = .returned (.bool true) ∧ Below V.heap.size V w') := show _ from fun V b F h => link_idle h
  go_enter Try.func10, Try.ntmps10
  go_wp2_with fail
  go_at_call 11
  with_reducible refine NC.mono ?_
  rintro e w1 ⟨b, F1, rfl, l1, hF1, b1⟩
  have L1 : Hid (St w w1 b lsA F1) := show St w w1 b lsA F1 from ⟨l1, hF1, b1⟩
  clear NC l1 hF1 b1
  have O1 := C1.out w1 b F1 L1.out.lk
  go_wp2_with fail
  go_at_call 30
  refine O1.mono ?_
  rintro e w2 ⟨F2, rfl, l2, g2⟩
  have L2 : Hid (St w w2 b lsB F2) := L1.out.step l2 g2
  clear O1 l2 g2 L1 C1
  have O2 := C2.out w2 b F2 L2.out.lk
  go_upto_region 4 with (go_at_call 26; refine O2.mono ?_; rintro e w3 ⟨F3, rfl, l3, g3⟩)
  have L3 : Hid (St w (w3.alloc (.cells #[.int .i64 0, .int .u64 7] 35)) b lsC F3) := (L2.out.step l3 g3).alloc _
  have K3 : Hid (Bk (w3.alloc (.cells #[.int .i64 0, .int .u64 7] 35)) w3.heap.size #[.int .i64 0, .int .u64 7] 35) := Bk.new _ _ _
  have N3 : Hid (¬ F3 w3.heap.size) := show ¬ F3 w3.heap.size from (L2.out.step l3 g3).off (Nat.le_refl _)
  clear O2 l3 g3 L2 C2
  generalize hX : w3.alloc (.cells #[.int .i64 0, .int .u64 7] 35) = v3 at *
  clear hX
  generalize w3.heap.size = kb at *
  have O3 := C3.out v3 b F3 L3.out.lk
  go_wp2_with fail
  go_at_call 30
  refine O3.mono ?_
  rintro e w4 ⟨F4, rfl, l4, g4⟩
  have L4 : Hid (St w w4 b lsC F4) := L3.out.step l4 g4
  have K4 : Hid (Bk w4 kb #[.int .i64 0, .int .u64 7] 35) := K3.out.gr g4 N3.out
  have N4 : Hid (¬ F4 kb) := show ¬ F4 kb from g4.off N3.out K3.out.lt
  clear O3 l4 g4 L3 K3 N3 C3
  have O4 := C4.out w4 b F4 L4.out.lk
  go_wp2_with fail
  go_at_call 27
  refine O4.mono ?_
  rintro e w5 ⟨F5, rfl, l5, g5⟩
  have L5 : Hid (St w w5 b lsD F5) := L4.out.step l5 g5
  have K5 : Hid (Bk w5 kb #[.int .i64 0, .int .u64 7] 35) := K4.out.gr g5 N4.out
  have N5 : Hid (¬ F5 kb) := show ¬ F5 kb from g5.off N4.out K4.out.lt
  clear O4 l5 g5 L4 K4 N4 C4
  have O5 := C5.out w5 b F5 L5.out.lk
  go_wp2_with fail
  go_at_call 28
  refine O5.mono ?_
  rintro e w6 ⟨F6, rfl, l6, g6⟩
  have L6 : Hid (St w w6 b lsA F6) := L5.out.step l6 g6
  have K6 : Hid (Bk w6 kb #[.int .i64 0, .int .u64 7] 35) := K5.out.gr g6 N5.out
  clear O5 l6 g6 L5 K5 N5 C5
  have c1 := K6.out.cell 1
  simp only [List.getElem?_toArray, List.getElem?_cons_zero, List.getElem?_cons_succ] at c1
  have O6 := C6.out w6 b F6 L6.out.lk
  go_wp2_with fail
  go_at_call 23
  refine O6.mono ?_
  rintro e w7 ⟨rfl, b7⟩
  have L7 : Hid (St w w7 b lsA F6) := L6.out.next b7
  clear O6 b7 L6 K6 C6 c1
  have O7 := C7.out w7 b F6 L7.out.lk
  go_wp2_with fail
  go_at_call 25
  refine O7.mono ?_
  rintro e w8 ⟨rfl, b8⟩
  have L8 : Hid (St w w8 b lsA F6) := L7.out.next b8
  clear O7 b8 L7 C7
  have O8 := C8.out w8 b F6 L8.out.lk
  go_wp2_with fail
  go_at_call 29
  refine O8.mono ?_
  rintro e w9 ⟨rfl, b9⟩
  have L9 : Hid (St w w9 b lsA F6) := L8.out.next b9
  clear O8 b9 L8 C8
  go_wp2
  go_ret
  exact ⟨rfl, L9.out.below⟩
end Go.Proofs.Ytihfekcdghmkhaa
