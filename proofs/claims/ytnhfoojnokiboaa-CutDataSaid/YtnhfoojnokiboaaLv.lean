/-
  The walks of lives and of walk's Words.
-/
import Derived.Test.YtnhfoojnokiboaaReadC
import Derived.Test.YtnhfoojnokiboaaSameC
import Derived.Test.YtnhfoojnokiboaaPkC
import Derived.Test.YtnhfoojnokiboaaGood
namespace Go.Proofs.Ytnhfoojnokiboaa
open Go.RowKit

def xe : ByteArray := ⟨#[97, 98, 99, 100, 101, 102, 103]⟩
/-- The document's example. -/
def p0 : Pc := ⟨1, false, [(2, 3)], xe⟩
theorem p0_ok : p0.okB = true := by rw [ok_iff]; simp [p0, xe, headOk, ByteArray.size]
theorem p0_ws : p0.ws = [(hdF p0 0).word, (bdF xe 0).word, (tlF xe).word] := rfl

set_option maxRecDepth 100000 in
set_option maxHeartbeats 4000000 in
theorem lives_any (w : World) : Calls Try.prog 8 #[] w fun e w' => e = .returned (.bool true) ∧ Below w.heap.size w w' := by
  have BA : Hid (Below w.heap.size w (w.alloc (.cells #[.int .i64 2, .int .i64 3] 55))) := (Below.refl _ _).alloc (Nat.le_refl _) _
  have WC := cwords_any 1 false (some ⟨w.heap.size, 0, none⟩) 1 xe [(2, 3)] (w.alloc (.cells #[.int .i64 2, .int .i64 3] 55)) (by simp) (by unfold maxLen; decide) (fun j v hj => ⟨w.heap.size, 0, rfl, by simp, by
    rw [Nat.zero_add, cell_of (heap_alloc_new w (.cells #[.int .i64 2, .int .i64 3] 55)) j]
    simpa [pc] using hj⟩)
  have ew : Pc.wordsR ⟨1, false, [(2, 3)], xe⟩ = (p0.ws, 0) := by
    show p0.wordsR = _
    unfold Pc.wordsR
    rw [if_neg (by decide), if_pos p0_ok]
  rw [ew] at WC
  clear ew
  obtain ⟨W0, h0⟩ : ∃ W, (hdF p0 0).word = W := ⟨_, rfl⟩
  obtain ⟨W1, h1⟩ : ∃ W, (bdF xe 0).word = W := ⟨_, rfl⟩
  obtain ⟨W2, h2⟩ : ∃ W, (tlF xe).word = W := ⟨_, rfl⟩
  have E1 : p0.ws = [W0, W1, W2] := by rw [p0_ws, h0, h1, h2]
  have l0 : W0 < 18446744073709551616 := h0 ▸ word_lt _
  have l1 : W1 < 18446744073709551616 := h1 ▸ word_lt _
  have l2 : W2 < 18446744073709551616 := h2 ▸ word_lt _
  have k0 : ((W0 % 4 : Nat) : Int) = 1 := h0 ▸ word_kind (hd_right p0_ok (by decide))
  have k1 : ((W1 % 4 : Nat) : Int) = 2 := h1 ▸ word_kind (bd_right (by decide))
  have k2 : ((W2 % 4 : Nat) : Int) = 3 := h2 ▸ word_kind (tl_right xe)
  have RD : readPc [W0, W1, W2] = (p0, 0) := by rw [← E1]; exact read_ws p0_ok
  rw [E1] at WC
  clear E1 h0 h1 h2
  have RC : ∀ w' a cap, Rd w' a (vw [W0, W1, W2]) → _ := fun w' a cap h => crd_any [W0, W1, W2] a cap w' (by simp) (by
    intro x hx
    simp at hx
    rcases hx with rfl | rfl | rfl <;> assumption) h
  rw [RD] at RC
  clear RD
  have K0 := fun w => kind_any W0 l0 w
  have K1 := fun w => kind_any W1 l1 w
  have K2 := fun w => kind_any W2 l2 w
  rw [k0] at K0
  rw [k1] at K1
  rw [k2] at K2
  clear k0 k1 k2 l0 l1 l2
  simp only [pcv, pcc, p0, xe, List.length_cons, List.length_nil, Nat.zero_add] at *
  go_enter Try.func8, Try.ntmps8
  go_wp2_with fail
  go_at_call 10
  with_reducible refine WC.mono ?_
  rintro e w1 ⟨a1, cap1, rfl, hc1, rd1, hb1⟩
  have HB1 : Hid (Below w.heap.size w w1) := BA.out.trans (hb1.mono BA.out.size)
  have RC1 := RC w1 a1 cap1 rd1
  have R1 : Hid (Rd w1 a1 (vw [W0, W1, W2])) := rd1
  clear WC BA hb1 rd1 RC
  go_wp2_with fail
  go_at_call 21
  with_reducible refine RC1.mono ?_
  rintro e w2 ⟨a2, cap2, rfl, hc2, rd2, hb2⟩
  have HB2 : Hid (Below w.heap.size w w2) := HB1.out.trans (hb2.mono HB1.out.size)
  obtain ⟨g, o, rfl, hg, c0⟩ := R1.out 0 (.int .u64 (W0 : Int)) rfl
  obtain ⟨g', o', e', _, c1⟩ := R1.out 1 (.int .u64 (W1 : Int)) rfl
  simp only [Option.some.injEq, Addr.mk.injEq] at e'
  obtain ⟨rfl, rfl, _⟩ := e'
  obtain ⟨g', o', e', _, c2⟩ := R1.out 2 (.int .u64 (W2 : Int)) rfl
  simp only [Option.some.injEq, Addr.mk.injEq] at e'
  obtain ⟨rfl, rfl, _⟩ := e'
  obtain ⟨g2, o2, rfl, hg2, d0, d1⟩ := rd2.pair (k := 0) (by simp)
  have HB3 : Hid (Below w.heap.size w (w2.alloc (.cells #[.int .i64 1, .bool false, .slice (some ⟨g2, o2, none⟩) 1 cap2, .string ⟨#[97, 98, 99, 100, 101, 102, 103]⟩] 28))) := HB2.out.alloc HB2.out.size _
  have C0 : w2.cell? ⟨g, o, none⟩ = some (.int .u64 (W0 : Int)) := by
    rw [hb2.cell (p := ⟨g, o, none⟩) hg]
    exact c0
  have C1 : w2.cell? ⟨g, o + 1, none⟩ = some (.int .u64 (W1 : Int)) := by
    rw [hb2.cell (p := ⟨g, o + 1, none⟩) hg]
    exact c1
  have C2 : w2.cell? ⟨g, o + 2, none⟩ = some (.int .u64 (W2 : Int)) := by
    rw [hb2.cell (p := ⟨g, o + 2, none⟩) hg]
    exact c2
  have D0 : w2.cell? ⟨g2, o2, none⟩ = some (.int .i64 2) := by simpa using d0
  have hgz : g < w2.heap.size := Nat.lt_of_lt_of_le hg hb2.size
  clear c0 c1 c2 d0 d1 hb2 rd2 R1 hg HB1 HB2 RC1
  go_wp2_with (first
    | (go_at_call 25; (with_reducible refine (K0 _).mono ?_); rintro e w3 ⟨rfl, n3, rfl⟩)
    | (go_at_call 25; (with_reducible refine (K1 _).mono ?_); rintro e w4 ⟨rfl, n4, rfl⟩)
    | (go_at_call 25; (with_reducible refine (K2 _).mono ?_); rintro e w5 ⟨rfl, n5, rfl⟩))
  go_ret
  exact ⟨rfl, by first | exact dn (dn (dn HB3.out _) _) _ | exact dn (dn HB3.out _) _ | exact dn HB3.out _⟩

/-- As many words as layer 9 says. -/
theorem wwords_any (h b : Nat) (w : World) (h1 : 1 ≤ h) (h2 : h ≤ 1000) (hb : b ≤ 64) : Calls Try.prog 23 #[.int .i64 (h : Int), .int .i64 (b : Int)] w fun e w' => e = .returned (.int .i64 ((h + (nb b + 1) : Nat) : Int)) ∧ w = w' := by
  obtain ⟨R, hR⟩ : ∃ R, ((h + (nb b + 1) : Nat) : Int) = R := ⟨_, rfl⟩
  rw [hR]
  unfold nb at hR
  have x1 : ¬ (h : Int) < 1 := by omega
  have x2 : ¬ (b : Int) < 0 := by omega
  have x3 : ¬ (64 : Int) < (b : Int) := by omega
  obtain ⟨q, hq⟩ : ∃ q : Int, (b : Int) / 6 = q := ⟨_, rfl⟩
  obtain ⟨r, hr⟩ : ∃ r : Int, (b : Int) % 6 = r := ⟨_, rfl⟩
  have e1 : (b : Int).tdiv 6 = q := by rw [Int.tdiv_eq_ediv_of_nonneg (by omega)]; exact hq
  have e2 : (b : Int).tmod 6 = r := by rw [Int.tmod_eq_emod_of_nonneg (by omega)]; exact hr
  have hb6 : IntKind.i64.wrap q = q := IntWalk.i64_in _ (by omega)
  have hr6 : IntKind.i64.wrap r = r := IntWalk.i64_in _ (by omega)
  by_cases hr1 : 1 < r
  · obtain ⟨s, hs⟩ : ∃ s, q + 1 = s := ⟨_, rfl⟩
    have e4 : IntKind.i64.wrap (q + 1) = s := by rw [IntWalk.i64_in _ (by omega)]; exact hs
    have e5 : IntKind.i64.wrap ((h : Int) + s) = R := by rw [IntWalk.i64_in _ (by omega), ← hR]; omega
    have g1 : ¬ s < 1 := by omega
    have g2 : 1 ≤ s := by omega
    have g3 : ¬ r < 1 := by omega
    have g4 : ¬ r ≤ 1 := by omega
    by_cases g5 : 1 < s
    · clear hq hr hs hR
      go_enter Try.func23, Try.ntmps23
      go_wp2
      go_ret
      exact ⟨rfl, rfl⟩
    · obtain rfl : s = 1 := by omega
      clear hq hr hs hR
      go_enter Try.func23, Try.ntmps23
      go_wp2
      go_ret
      exact ⟨rfl, rfl⟩
  · obtain ⟨s, hs⟩ : ∃ s, q + r = s := ⟨_, rfl⟩
    have e4 : IntKind.i64.wrap (q + r) = s := by rw [IntWalk.i64_in _ (by omega)]; exact hs
    by_cases g5 : 1 < s
    · have e5 : IntKind.i64.wrap ((h : Int) + s) = R := by rw [IntWalk.i64_in _ (by omega), ← hR]; omega
      have g1 : ¬ s < 1 := by omega
      clear hq hr hs hR
      go_enter Try.func23, Try.ntmps23
      go_wp2
      go_ret
      exact ⟨rfl, rfl⟩
    · have e5 : IntKind.i64.wrap ((h : Int) + 1) = R := by rw [IntWalk.i64_in _ (by omega), ← hR]; omega
      have e6 : s = 1 → IntKind.i64.wrap ((h : Int) + s) = R := by rintro rfl; exact e5
      by_cases g1 : s < 1
      · clear hq hr hs hR e6
        go_enter Try.func23, Try.ntmps23
        go_wp2
        go_ret
        exact ⟨rfl, rfl⟩
      · have e7 := e6 (by omega)
        clear hq hr hs hR e6
        go_enter Try.func23, Try.ntmps23
        go_wp2
        go_ret
        exact ⟨rfl, rfl⟩
end Go.Proofs.Ytnhfoojnokiboaa
