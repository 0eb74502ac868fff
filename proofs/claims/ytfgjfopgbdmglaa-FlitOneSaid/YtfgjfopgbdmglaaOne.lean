/-
  The walk of FlitOne.
-/
import Derived.Test.YtfgjfopgbdmglaaBack
namespace Go.Proofs.Ytfgjfopgbdmglaa
open Go.RowKit

/-- A flit's word of which one byte is another one: the word T. -/
theorem one_read (F : Fl) (U : Nat) : ∃ T : Nat, T < 18446744073709551616 ∧ sealN T ≠ T ∧
    bits .xor .u64 ((F.word : Nat) : Int) (IntKind.u64.wrap ((1 + (U : Int) / 8 % 255) * 2 ^ (8 * (U % 8)))) = (T : Int) := by
  have hk : U % 8 < 8 := Nat.mod_lt _ (by decide)
  obtain ⟨b, hb⟩ : ∃ b : Nat, b = 1 + U / 8 % 255 := ⟨_, rfl⟩
  have hb1 : b < 256 := by omega
  have hb0 : b ≠ 0 := by omega
  have hbi : (1 + (U : Int) / 8 % 255) = (b : Int) := by omega
  have hw : F.word = sealN (packR F.sizes F.vals).1 := rfl
  have hl := word_lt F
  refine ⟨F.word ^^^ (b * 2 ^ (8 * (U % 8))), xor_lt _ _ _ hl hb1 hk, ?_, ?_⟩
  · intro c
    rw [hw] at c
    exact hb0 ((one_byte (packR F.sizes F.vals).1 b (U % 8) hb1 hk).mp c)
  · obtain ⟨e1, l1⟩ := shl_eq b (8 * (U % 8)) 8 (by omega) hb1
    rw [hbi, e1, u64_xor_nat _ _ hl l1]

set_option maxRecDepth 100000 in
set_option maxHeartbeats 3200000 in
theorem flitOne_any (f g : Fl) (at_ : Int) (hf : f.x.size ≤ maxLen) (hg : g.x.size ≤ maxLen) (w : World) :
    Calls Try.prog 6 #[flv f, flv g, .int .i64 at_] w fun e w' => e = .returned (.bool true) ∧ Below w.heap.size w w' := by
  have V := lives_any ((w.alloc (.cells (flc f) 23)).alloc (.cells (flc g) 23))
  have F1 := fun w => few_any f hf w
  have F2 := fun w => few_any g hg w
  rw [show ((w.alloc (.cells (flc f) 23)).alloc (.cells (flc g) 23)).heap.size = w.heap.size + 2 by simp] at V
  have b1 : ((w.alloc (.cells (flc f) 23)).alloc (.cells (flc g) 23)).heap[w.heap.size]? = some (.cells (flc f) 23 (0, 0)) := by
    rw [Below.heap_alloc _ _ _ (by simp)]; exact heap_alloc_new w _
  have b2 : ((w.alloc (.cells (flc f) 23)).alloc (.cells (flc g) 23)).heap[w.heap.size + 1]? = some (.cells (flc g) 23 (0, 0)) := by
    have := heap_alloc_new (w.alloc (.cells (flc f) 23)) (.cells (flc g) 23)
    rw [show (w.alloc (.cells (flc f) 23)).heap.size = w.heap.size + 1 by simp] at this
    exact this
  have B1 : Hid (((w.alloc (.cells (flc f) 23)).alloc (.cells (flc g) 23)).heap[w.heap.size]? = some (.cells (flc f) 23 (0, 0))) := b1
  have B2 : Hid (((w.alloc (.cells (flc f) 23)).alloc (.cells (flc g) 23)).heap[w.heap.size + 1]? = some (.cells (flc g) 23 (0, 0))) := b2
  clear b1 b2
  have ef : flc (fewF f) = #[.int .i64 f.k, .int .i64 f.s, .int .i64 f.d, .int .i64 f.q, .int .i64 f.l, .bool f.m, .bool f.c, .string (fewX f.x)] := rfl
  have eg : flc (fewF g) = #[.int .i64 g.k, .int .i64 g.s, .int .i64 g.d, .int .i64 g.q, .int .i64 g.l, .bool g.m, .bool g.c, .string (fewX g.x)] := rfl
  simp only [flv, ef, eg] at F1 F2
  simp only [flv, flc] at V F1 F2 ⊢
  clear ef eg
  go_enter Try.func6, Try.ntmps6
  go_wp2_with fail
  go_at_call 8
  refine V.mono ?_
  rintro e w1 ⟨rfl, hb⟩
  have hy1 := fun j => eight_at (flit_block B1.out hb (by omega)) j
  have hy2 := fun j => eight_at (flit_block B2.out hb (by omega)) j
  have y0 := (hy1 0).1
  have x0 := (hy1 0).2
  have v0 := (hy2 0).1
  have t0 := (hy2 0).2
  have y1 := (hy1 1).1
  have x1 := (hy1 1).2
  have v1 := (hy2 1).1
  have t1 := (hy2 1).2
  have y2 := (hy1 2).1
  have x2 := (hy1 2).2
  have v2 := (hy2 2).1
  have t2 := (hy2 2).2
  have y3 := (hy1 3).1
  have x3 := (hy1 3).2
  have v3 := (hy2 3).1
  have t3 := (hy2 3).2
  have y4 := (hy1 4).1
  have x4 := (hy1 4).2
  have v4 := (hy2 4).1
  have t4 := (hy2 4).2
  have y5 := (hy1 5).1
  have x5 := (hy1 5).2
  have v5 := (hy2 5).1
  have t5 := (hy2 5).2
  have y6 := (hy1 6).1
  have x6 := (hy1 6).2
  have v6 := (hy2 6).1
  have t6 := (hy2 6).2
  have y7 := (hy1 7).1
  have x7 := (hy1 7).2
  have v7 := (hy2 7).1
  have t7 := (hy2 7).2
  simp at y0 y1 y2 y3 y4 y5 y6 y7 v0 v1 v2 v3 v4 v5 v6 v7
  have hz : w.heap.size + 1 < w1.heap.size := by have := hb.size; simp at this; omega
  have hz0 : w.heap.size < w1.heap.size := by omega
  have hz1 : w.heap.size < w1.heap.size + 1 := by omega
  have hz2 : w.heap.size < w1.heap.size + 1 + 1 := by omega
  have hz3 : w.heap.size < w1.heap.size + 1 + 1 + 1 := by omega
  have hw1 : w.heap.size + 1 < w1.heap.size + 1 := by omega
  have hw2 : w.heap.size + 1 < w1.heap.size + 1 + 1 := by omega
  have hw3 : w.heap.size + 1 < w1.heap.size + 1 + 1 + 1 := by omega
  clear hy1 hy2
  have A := after_few (flit_block B1.out hb (by omega)) (flit_block B2.out hb (by omega)) ((((Below.refl _ _).alloc (Nat.le_refl _) _).alloc (by simp) _).trans (hb.mono (by omega)) : Below w.heap.size w w1) (fewF f) (fewF g)
  have HA : Hid (∀ a b c d : Obj, Two w.heap.size (fewF f) (fewF g) (((((set8 (set8 w1 w.heap.size (fewF f)) (w.heap.size + 1) (fewF g)).alloc a).alloc b).alloc c).alloc d).drew ∧
    Below w.heap.size w (((((set8 (set8 w1 w.heap.size (fewF f)) (w.heap.size + 1) (fewF g)).alloc a).alloc b).alloc c).alloc d).drew) := A
  clear A hb V
  go_upto_region 3 with fail
  go_cut [3] (fun s2 wc => s2 = .pointer (some ⟨w.heap.size, 0, none⟩) ∧ Hid (Two w.heap.size (fewF f) (fewF g) wc ∧ Below w.heap.size w wc))
  case first =>
    go_region_with (first
      | (go_at_call 9; (with_reducible refine (F1 _).mono ?_); rintro e w' ⟨rfl, rfl⟩)
      | (go_at_call 9; (with_reducible refine (F2 _).mono ?_); rintro e w' ⟨rfl, rfl⟩))
    all_goals (go_wp2_with fail; go_meet; exact ⟨rfl, HA.out _ _ _ _⟩)
  case rest =>
    obtain ⟨rfl, hT⟩ := hcut
    clear F1 F2 HA B1 B2 x0 x1 x2 x3 x4 x5 x6 x7 t0 t1 t2 t3 t4 t5 t6 t7 y0 y1 y2 y3 y4 y5 y6 y7 v0 v1 v2 v3 v4 v5 v6 v7 hz0 hz1 hz2 hz3 hw1 hw2 hw3 hz
    obtain ⟨F, hF⟩ : ∃ F, F = fewF f := ⟨_, rfl⟩
    obtain ⟨G, hG⟩ : ∃ G, G = fewF g := ⟨_, rfl⟩
    rw [← hF, ← hG] at hT
    clear hF hG
    have Wr := fun w => fwrite_any F w
    have Wg := fun w => fwrite_any G w
    have Eq := run_eq_flit F G
    have Gd := Try.flitGuard
    simp only [flv, flc] at Wr Wg Eq
    obtain ⟨T1, hb1⟩ := hT.out
    have HT1 : Hid (Two w.heap.size F G wc) := T1
    have HB1 : Hid (Below w.heap.size w wc) := hb1
    obtain ⟨a0, a1, a2, a3, a4, a5, a6, a7, c0, c1, c2, c3, c4, c5, c6, c7, hz⟩ := T1
    clear hT hb1
    go_wp2_with fail
    go_at_call 10
    refine (Wr _).mono ?_
    rintro e w2 ⟨rfl, hb2⟩
    clear a0 a1 a2 a3 a4 a5 a6 a7 c0 c1 c2 c3 c4 c5 c6 c7 hz
    have T2 := Two.below hb2 HT1.out
    have HT2 : Hid (Two w.heap.size F G w2) := T2
    have HB2 : Hid (Below w.heap.size w w2) := below_step HB1.out hb2
    obtain ⟨a0, a1, a2, a3, a4, a5, a6, a7, c0, c1, c2, c3, c4, c5, c6, c7, hz⟩ := T2
    clear hb2 Wr
    go_wp2_with fail
    go_at_call 10
    refine (Wg _).mono ?_
    rintro e w3 ⟨rfl, hb3⟩
    clear a0 a1 a2 a3 a4 a5 a6 a7 c0 c1 c2 c3 c4 c5 c6 c7 hz
    have T3 := Two.below hb3 HT2.out
    have HB3 : Hid (Below w.heap.size w w3) := below_step HB2.out hb3
    have HT3 : Hid (Two w.heap.size F G w3) := T3
    clear hb3 Wg T3
    by_cases hr : F.rightB = true
    · have r1 : F.wordR = (F.word, 0) := by unfold Fl.wordR; rw [if_pos hr]
      rw [r1]
      obtain ⟨U, hU⟩ : ∃ U : Nat, U = (at_ % 18446744073709551616).toNat := ⟨_, rfl⟩
      have hUl : U < 18446744073709551616 := by omega
      have hu : IntKind.u64.wrap at_ = (U : Int) := by rw [IntKind.wrap_u64]; omega
      clear hU
      obtain ⟨T, hTl, hTr, hX⟩ := one_read F U
      have Rd1 := fun w => fread_any T hTl w
      have hR : readR T = (zf, 3) := by unfold readR; rw [if_neg hTr]
      rw [hR] at Rd1
      have hwi := fun hg => word_inj (f := F) (g := G) hr hg
      have hGy := fun (hg : G.rightB = true) => (by unfold Fl.wordR; rw [if_pos hg] : G.wordR = (G.word, 0))
      have hGn := fun (hg : ¬ G.rightB = true) => (by unfold Fl.wordR; rw [if_neg hg] : G.wordR = (0, 1))
      have hq := Fl.eqB_iff F G
      have hcast : ∀ a b : Nat, ((a : Int) == (b : Int)) = decide (a = b) := beq_nat
      generalize F.word = p at *
      clear hR hr r1 hTr
      by_cases hg2 : G.rightB = true
      · rw [hGy hg2]
        have hpv := hwi hg2
        generalize G.word = v at *
        have hpq : ((p : Int) == (v : Int)) = F.eqB G := by
          rw [hcast]
          rw [Bool.eq_iff_iff, decide_eq_true_iff, hpv, hq]
        clear hcast hq hpv hwi hGy hGn hg2
        generalize F.eqB G = q at *
        cases q
        all_goals
          go_wp2_with fail
          go_at_call 16
          refine (Rd1 _).mono ?_
          rintro e w4 ⟨rfl, hb4⟩
          obtain ⟨a0, a1, a2, a3, a4, a5, a6, a7, c0, c1, c2, c3, c4, c5, c6, c7, hz⟩ := Two.below hb4 HT3.out
          have HB4 : Hid (Below w.heap.size w (w4.alloc (.cells (flc zf) 23))) := (below_step HB3.out hb4).alloc (below_step HB3.out hb4).size _
          have hz4 : w.heap.size < w4.heap.size := by omega
          clear hb4 Rd1 hX
          go_wp2
          go_ret
          exact ⟨rfl, HB4.out⟩
      · rw [hGn hg2]
        clear hcast hq hwi hGy hGn hg2
        go_wp2_with fail
        go_at_call 16
        refine (Rd1 _).mono ?_
        rintro e w4 ⟨rfl, hb4⟩
        have HB4 : Hid (Below w.heap.size w (w4.alloc (.cells (flc zf) 23))) := (below_step HB3.out hb4).alloc (below_step HB3.out hb4).size _
        clear hb4 Rd1 hX
        go_wp2
        go_ret
        exact ⟨rfl, HB4.out⟩
    · have r1 : F.wordR = (0, 1) := by unfold Fl.wordR; rw [if_neg hr]
      rw [r1]
      clear r1 hr
      go_wp2
      go_ret
      exact ⟨rfl, HB3.out⟩
end Go.Proofs.Ytfgjfopgbdmglaa
