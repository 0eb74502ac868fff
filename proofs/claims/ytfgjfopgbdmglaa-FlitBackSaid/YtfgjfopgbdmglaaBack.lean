/-
  The walk of FlitBack.
-/
import Derived.Test.YtfgjfopgbdmglaaReads
namespace Go.Proofs.Ytfgjfopgbdmglaa
open Go.RowKit

abbrev zfl : Fl := ⟨0, 0, 0, 0, 0, false, false, ⟨#[]⟩⟩

/-- What a call of few leaves. -/
theorem after_one {w w1 : World} {f : Fl} (h1 : w1.heap[w.heap.size]? = some (.cells (flc f) 23 (0, 0))) (hb : Below w.heap.size w w1) (f' : Fl) (a b : Obj) :
    (((set8 w1 w.heap.size f').alloc a).alloc b).heap[w.heap.size]? = some (.cells (flc f') 23 (0, 0)) ∧ Below w.heap.size w (((set8 w1 w.heap.size f').alloc a).alloc b) := by
  have k1 := set8_at h1 f'
  have kb := set8_below hb (Nat.le_refl _) f'
  generalize set8 w1 w.heap.size f' = Y at *
  have hl := lt_of_heap k1
  refine ⟨?_, (kb.alloc (by omega) _).alloc (by simp; omega) _⟩
  rw [Below.heap_alloc _ _ _ (by simp; omega), Below.heap_alloc _ _ _ hl]
  exact k1

set_option maxRecDepth 100000 in
set_option maxHeartbeats 3200000 in
theorem flitBack_any (f : Fl) (W : Nat) (hf : f.x.size ≤ maxLen) (hW : W < 18446744073709551616) (w : World) :
    Calls Try.prog 5 #[flv f, .int .u64 W] w fun e w' => e = .returned (.bool true) ∧ Below w.heap.size w w' := by
  have V := lives_any (w.alloc (.cells (flc f) 23))
  have F1 := fun w => few_any f hf w
  rw [show (w.alloc (.cells (flc f) 23)).heap.size = w.heap.size + 1 by simp] at V
  have B1 : Hid ((w.alloc (.cells (flc f) 23)).heap[w.heap.size]? = some (.cells (flc f) 23 (0, 0))) := heap_alloc_new w _
  have S := fun w => seal_any W hW w
  have hs := seal_lt W
  have hss := seal_seal W
  generalize sealN W = s at *
  have Re := fun w => fread_any s hs w
  have YES := fun (h : (readR s).2 = 0) => (⟨fun w => by have := fwrite_any (readR s).1 w; rw [(readR_ok h).1] at this; exact this, fun w => by have := fright_any (readR s).1 w; rw [(readR_ok h).2] at this; exact this⟩ :
    (∀ w : World, Calls Try.prog 10 #[flv (readR s).1] w fun e w' => e = .returned (.tuple #[.int .u64 (s : Int), .int .i64 0]) ∧ Below w.heap.size w w') ∧
    (∀ w : World, Calls Try.prog 12 #[flv (readR s).1] w fun e w' => e = .returned (.bool true) ∧ Below w.heap.size w w'))
  have NO := fun (h : (readR s).2 ≠ 0) => (⟨(readR_no h).1, (readR_no h).2.2.1 hss⟩ : (readR s).1 = zfl ∧ (readR s).2 = 2)
  generalize readR s = gh at *
  obtain ⟨G, h⟩ := gh
  simp only at Re YES NO
  clear hss
  have ef : flc (fewF f) = #[.int .i64 f.k, .int .i64 f.s, .int .i64 f.d, .int .i64 f.q, .int .i64 f.l, .bool f.m, .bool f.c, .string (fewX f.x)] := rfl
  simp only [flv, ef] at F1
  simp only [flv, flc] at V F1 Re ⊢
  clear ef
  go_enter Try.func5, Try.ntmps5
  go_wp2_with fail
  go_at_call 8
  refine V.mono ?_
  rintro e w1 ⟨rfl, hb⟩
  obtain ⟨d0, d1, d2, d3, d4, d5, d6, d7⟩ := eight_cells (flit_block B1.out hb (by omega))
  have hfr := fun j => (eight_at (flit_block B1.out hb (by omega)) j).2
  have x0 := hfr 0
  have x1 := hfr 1
  have x2 := hfr 2
  have x3 := hfr 3
  have x4 := hfr 4
  have x5 := hfr 5
  have x6 := hfr 6
  have x7 := hfr 7
  have hz : w.heap.size < w1.heap.size := by have := hb.size; simp at this; omega
  have hz1 : w.heap.size < w1.heap.size + 1 := by omega
  have A := after_one (flit_block B1.out hb (by omega)) (((Below.refl _ _).alloc (Nat.le_refl _) _).trans (hb.mono (by omega)) : Below w.heap.size w w1) (fewF f)
  have HA : Hid (∀ a b : Obj, (((set8 w1 w.heap.size (fewF f)).alloc a).alloc b).heap[w.heap.size]? = some (.cells (flc (fewF f)) 23 (0, 0)) ∧ Below w.heap.size w (((set8 w1 w.heap.size (fewF f)).alloc a).alloc b)) := A
  clear A hb V hfr
  go_wp2_with (go_at_call 9; (with_reducible refine (F1 _).mono ?_); rintro e w' ⟨rfl, rfl⟩)
  go_at_call 10
  have hA := HA.out (.cells (flc (fewF f)) 23) (.cells (flc (fewF f)) 23)
  have Wr := fun w => fwrite_any (fewF f) w
  have FR := fun (h : (fewF f).rightB = true) => (⟨by unfold Fl.wordR; rw [if_pos h], word_lt (fewF f), readR_word h, word_kind h⟩ : (fewF f).wordR = ((fewF f).word, 0) ∧ (fewF f).word < 18446744073709551616 ∧ readR (fewF f).word = (fewF f, 0) ∧ (((fewF f).word % 4 : Nat) : Int) = (fewF f).k)
  have FN := fun (h : ¬ (fewF f).rightB = true) => (by unfold Fl.wordR; rw [if_neg h] : (fewF f).wordR = (0, 1))
  refine (Wr _).mono ?_
  rintro e w2 ⟨rfl, hb2⟩
  have e2 := flit_block hA.1 hb2 (lt_of_heap hA.1)
  have HB2 : Hid (Below w.heap.size w w2) := below_step hA.2 hb2
  clear hA hb2 Wr F1 HA d0 d1 d2 d3 d4 d5 d6 d7 x0 x1 x2 x3 x4 x5 x6 x7 hz hz1 B1
  generalize fewF f = F at *
  by_cases hr : F.rightB = true
  · obtain ⟨r1, r2, r3, r4⟩ := FR hr
    have Rd1 := fun w => fread_any F.word r2 w
    have K := fun w => kind_drew F.word r2 w
    rw [r3] at Rd1
    rw [r4] at K
    rw [r1]
    generalize F.word = p at *
    have Ne := run_ne_flit F F
    rw [Fl.eqB_self] at Ne
    have Gd := Try.flitGuard
    simp only [flv, flc] at Ne Rd1
    have E2 : Hid (w2.heap[w.heap.size]? = some (.cells (flc F) 23 (0, 0))) := e2
    clear FR FN r1 r2 r3 r4 e2 hr
    go_wp2_with fail
    go_at_call 16
    refine (Rd1 _).mono ?_
    rintro e w3 ⟨rfl, hb3⟩
    have HB3 : Hid (Below w.heap.size w (w3.alloc (.cells (flc F) 23))) := (below_step HB2.out hb3).alloc (below_step HB2.out hb3).size _
    obtain ⟨d0, d1, d2, d3, d4, d5, d6, d7⟩ := eight_cells (flit_block E2.out hb3 (lt_of_heap E2.out))
    have hz3 : w.heap.size < w3.heap.size := by have := lt_of_heap E2.out; have := hb3.size; omega
    clear hb3 Rd1
    go_wp2_with fail
    go_quiet ((go_at_call 18; exact Calls.quiet_of (K _)))
    have HB4 : Hid (Below w.heap.size w ((w3.alloc (.cells (flc F) 23)).drewN nq)) := below_drewN HB3.out _
    clear d0 d1 d2 d3 d4 d5 d6 d7 K Ne
    go_wp2_with (go_at_call 15; (with_reducible refine (S _).mono ?_); rintro e w' ⟨rfl, rfl⟩)
    go_at_call 16
    refine (Re _).mono ?_
    rintro e w5 ⟨rfl, hb5⟩
    have HB5 : Hid (Below w.heap.size w w5) := below_step HB4.out hb5
    clear hb5 Re
    by_cases h0 : h = 0
    · subst h0
      obtain ⟨Wr2, Ri2⟩ := YES rfl
      simp only [flv, flc] at Wr2 Ri2
      clear NO YES
      go_wp2_with fail
      go_at_call 10
      refine (Wr2 _).mono ?_
      rintro e w6 ⟨rfl, hb6⟩
      obtain ⟨d0, d1, d2, d3, d4, d5, d6, d7⟩ := eight_cells (flit_block (new_flit w5 G) hb6 (by simp))
      have HB6 : Hid (Below w.heap.size w w6) := below_step (HB5.out.alloc HB5.out.size _) hb6
      clear hb6 Wr2
      go_wp2_with fail
      go_at_call 12
      refine (Ri2 _).mono ?_
      rintro e w7 ⟨rfl, hb7⟩
      have HB7 : Hid (Below w.heap.size w w7) := below_step HB6.out hb7
      clear hb7 Ri2
      go_wp2
      go_ret
      exact ⟨rfl, HB7.out⟩
    · obtain ⟨rfl, rfl⟩ := NO h0
      have Ez := run_eq_flit zfl zfl
      rw [Fl.eqB_self] at Ez
      have HB6 : Hid (Below w.heap.size w (w5.alloc (.cells (flc zfl) 23))) := HB5.out.alloc HB5.out.size _
      clear YES NO h0
      simp only [flv, flc] at *
      go_wp2
      go_ret
      exact ⟨rfl, HB6.out⟩
  · rw [FN hr]
    clear FR FN e2 hr
    go_wp2_with (go_at_call 15; (with_reducible refine (S _).mono ?_); rintro e w' ⟨rfl, rfl⟩)
    go_at_call 16
    refine (Re _).mono ?_
    rintro e w5 ⟨rfl, hb5⟩
    have HB5 : Hid (Below w.heap.size w w5) := below_step HB2.out hb5
    clear hb5 Re
    by_cases h0 : h = 0
    · subst h0
      obtain ⟨Wr2, Ri2⟩ := YES rfl
      simp only [flv, flc] at Wr2 Ri2
      clear NO YES
      go_wp2_with fail
      go_at_call 10
      refine (Wr2 _).mono ?_
      rintro e w6 ⟨rfl, hb6⟩
      obtain ⟨d0, d1, d2, d3, d4, d5, d6, d7⟩ := eight_cells (flit_block (new_flit w5 G) hb6 (by simp))
      have HB6 : Hid (Below w.heap.size w w6) := below_step (HB5.out.alloc HB5.out.size _) hb6
      clear hb6 Wr2
      go_wp2_with fail
      go_at_call 12
      refine (Ri2 _).mono ?_
      rintro e w7 ⟨rfl, hb7⟩
      have HB7 : Hid (Below w.heap.size w w7) := below_step HB6.out hb7
      clear hb7 Ri2
      go_wp2
      go_ret
      exact ⟨rfl, HB7.out⟩
    · obtain ⟨rfl, rfl⟩ := NO h0
      have Ez := run_eq_flit zfl zfl
      rw [Fl.eqB_self] at Ez
      have HB6 : Hid (Below w.heap.size w (w5.alloc (.cells (flc zfl) 23))) := HB5.out.alloc HB5.out.size _
      clear YES NO h0
      simp only [flv, flc] at *
      go_wp2
      go_ret
      exact ⟨rfl, HB6.out⟩
end Go.Proofs.Ytfgjfopgbdmglaa
