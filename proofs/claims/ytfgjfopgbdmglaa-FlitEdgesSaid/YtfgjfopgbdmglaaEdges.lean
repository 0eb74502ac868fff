/-
  The walk of FlitEdges.
-/
import Derived.Test.YtfgjfopgbdmglaaOne
namespace Go.Proofs.Ytfgjfopgbdmglaa
open Go.RowKit

theorem head_dec (s d q l : Int) : headB s d q l ⟨#[]⟩ = decide (0 ≤ s ∧ s < 4096 ∧ 0 ≤ d ∧ d < 4096 ∧ 0 ≤ q ∧ q < 65536 ∧ 0 ≤ l ∧ l < 65) := by
  rw [head_iff, show (ByteArray.toList ⟨#[]⟩).isEmpty = true by simp [ByteArray.toList_eq], Bool.and_true]
  congr 1
  exact propext ⟨fun h => by omega, fun h => by omega⟩

theorem right_more (kind : Int) (X : ByteArray) : (Fl.mk kind 0 0 0 0 true false X).rightB = ((Fl.mk kind 0 0 0 0 false false X).rightB && (kind == 1)) := by
  by_cases h : kind = 1
  · subst h
    rw [fl_right_one rfl, fl_right_one rfl]
    simp
  · have h1 : (kind == 1) = false := by simpa using h
    rw [h1, Bool.and_false]
    refine fl_right_bare h ?_
    rw [fl_only_iff]
    simp

set_option maxRecDepth 100000 in
set_option maxHeartbeats 6400000 in
theorem flitEdges_any (a0 a1 a2 a3 kind : Int) (x : ByteArray) (hx : x.size ≤ maxLen) (w : World) :
    Calls Try.prog 7 #[.agg #[.int .i64 a0, .int .i64 a1, .int .i64 a2, .int .i64 a3], .string x, .int .i64 kind] w fun e w' => e = .returned (.bool true) ∧ Below w.heap.size w w' := by
  unfold maxLen at hx
  have V := lives_any (w.alloc (.cells #[.int .i64 a0, .int .i64 a1, .int .i64 a2, .int .i64 a3] 41))
  rw [show (w.alloc (.cells #[.int .i64 a0, .int .i64 a1, .int .i64 a2, .int .i64 a3] 41)).heap.size = w.heap.size + 1 by simp] at V
  have HC : Hid (∀ w1, Below (w.heap.size + 1) (w.alloc (.cells #[.int .i64 a0, .int .i64 a1, .int .i64 a2, .int .i64 a3] 41)) w1 → ∀ j, w1.cell? ⟨w.heap.size, j, none⟩ = #[Value.int .i64 a0, .int .i64 a1, .int .i64 a2, .int .i64 a3][j]?) := fun w1 h j => by
    rw [h.cell (p := ⟨w.heap.size, j, none⟩) (by simp)]
    exact World.cell?_alloc_at _ _ _ _ rfl
  have hdB := head_dec a0 a1 a2 a3
  have HDB : Hid (headB a0 a1 a2 a3 ⟨#[]⟩ = decide (0 ≤ a0 ∧ a0 < 4096 ∧ 0 ≤ a1 ∧ a1 < 4096 ∧ 0 ≤ a2 ∧ a2 < 65536 ∧ 0 ≤ a3 ∧ a3 < 65)) := hdB
  clear hdB
  go_enter Try.func7, Try.ntmps7
  go_wp2_with fail
  go_at_call 8
  refine V.mono ?_
  rintro e w1 ⟨rfl, hb⟩
  have hc := HC.out _ hb
  have c0 : w1.cell? ⟨w.heap.size, 0, none⟩ = some (.int .i64 a0) := hc 0
  have c1 : w1.cell? ⟨w.heap.size, 1, none⟩ = some (.int .i64 a1) := hc 1
  have c2 : w1.cell? ⟨w.heap.size, 2, none⟩ = some (.int .i64 a2) := hc 2
  have c3 : w1.cell? ⟨w.heap.size, 3, none⟩ = some (.int .i64 a3) := hc 3
  have HB1 : Hid (Below w.heap.size w w1) := below_box _ _ hb
  clear hc hb V HC
  go_upto_region 3 with fail
  go_cut [1] (fun s1 wc => s1 = .string (fewX x) ∧ wc = w1)
  case first =>
    rcases (by omega : x.size ≤ 10 ∨ 10 < x.size) with h | h
    · have e2 : fewX x = x := by unfold fewX; rw [if_pos h]
      have HE : Hid (fewX x = x) := e2
      clear e2
      go_wp2_with fail
      go_meet
      exact ⟨by rw [HE.out], rfl⟩
    · have e2 : fewX x = x.extract 0 10 := by unfold fewX; rw [if_neg (by omega)]
      have HE : Hid (fewX x = x.extract 0 10) := e2
      clear e2
      go_wp2_with fail
      go_meet
      exact ⟨by rw [HE.out], rfl⟩
  case rest =>
  obtain ⟨rfl, rfl⟩ := hcut
  have hX := fewX_size x
  generalize fewX x = X at *
  clear hx
  go_upto_region 4 with fail
  go_cut [7] (fun s7 wd => s7 = .bool (headB a0 a1 a2 a3 ⟨#[]⟩) ∧ wd = wc)
  case first =>
    by_cases p0 : 0 ≤ a0
    case neg =>
      have e : headB a0 a1 a2 a3 ⟨#[]⟩ = false := by rw [HDB.out]; exact decide_eq_false (by omega)
      have HE : Hid (headB a0 a1 a2 a3 ⟨#[]⟩ = false) := e
      clear e
      go_wp2_with fail
      go_meet
      exact ⟨by rw [HE.out], rfl⟩
    by_cases p1 : a0 < 4096
    case neg =>
      have e : headB a0 a1 a2 a3 ⟨#[]⟩ = false := by rw [HDB.out]; exact decide_eq_false (by omega)
      have HE : Hid (headB a0 a1 a2 a3 ⟨#[]⟩ = false) := e
      clear e
      go_wp2_with fail
      go_meet
      exact ⟨by rw [HE.out], rfl⟩
    by_cases p2 : 0 ≤ a1
    case neg =>
      have e : headB a0 a1 a2 a3 ⟨#[]⟩ = false := by rw [HDB.out]; exact decide_eq_false (by omega)
      have HE : Hid (headB a0 a1 a2 a3 ⟨#[]⟩ = false) := e
      clear e
      go_wp2_with fail
      go_meet
      exact ⟨by rw [HE.out], rfl⟩
    by_cases p3 : a1 < 4096
    case neg =>
      have e : headB a0 a1 a2 a3 ⟨#[]⟩ = false := by rw [HDB.out]; exact decide_eq_false (by omega)
      have HE : Hid (headB a0 a1 a2 a3 ⟨#[]⟩ = false) := e
      clear e
      go_wp2_with fail
      go_meet
      exact ⟨by rw [HE.out], rfl⟩
    by_cases p4 : 0 ≤ a2
    case neg =>
      have e : headB a0 a1 a2 a3 ⟨#[]⟩ = false := by rw [HDB.out]; exact decide_eq_false (by omega)
      have HE : Hid (headB a0 a1 a2 a3 ⟨#[]⟩ = false) := e
      clear e
      go_wp2_with fail
      go_meet
      exact ⟨by rw [HE.out], rfl⟩
    by_cases p5 : a2 < 65536
    case neg =>
      have e : headB a0 a1 a2 a3 ⟨#[]⟩ = false := by rw [HDB.out]; exact decide_eq_false (by omega)
      have HE : Hid (headB a0 a1 a2 a3 ⟨#[]⟩ = false) := e
      clear e
      go_wp2_with fail
      go_meet
      exact ⟨by rw [HE.out], rfl⟩
    by_cases p6 : 0 ≤ a3
    case neg =>
      have e : headB a0 a1 a2 a3 ⟨#[]⟩ = false := by rw [HDB.out]; exact decide_eq_false (by omega)
      have HE : Hid (headB a0 a1 a2 a3 ⟨#[]⟩ = false) := e
      clear e
      go_wp2_with fail
      go_meet
      exact ⟨by rw [HE.out], rfl⟩
    by_cases p7 : a3 < 65
    case neg =>
      have e : headB a0 a1 a2 a3 ⟨#[]⟩ = false := by rw [HDB.out]; exact decide_eq_false (by omega)
      have HE : Hid (headB a0 a1 a2 a3 ⟨#[]⟩ = false) := e
      clear e
      go_wp2_with fail
      go_meet
      exact ⟨by rw [HE.out], rfl⟩
    have e : headB a0 a1 a2 a3 ⟨#[]⟩ = true := by rw [HDB.out]; exact decide_eq_true (by omega)
    have HE : Hid (headB a0 a1 a2 a3 ⟨#[]⟩ = true) := e
    clear e
    go_wp2_with fail
    go_meet
    exact ⟨by rw [HE.out], rfl⟩
  case rest =>
  obtain ⟨rfl, rfl⟩ := hcut
  have R1 := fun w => fright_any ⟨1, a0, a1, a2, a3, false, false, ⟨#[]⟩⟩ w
  rw [show (Fl.mk 1 a0 a1 a2 a3 false false ⟨#[]⟩).rightB = headB a0 a1 a2 a3 ⟨#[]⟩ from fl_right_one rfl] at R1
  have R2 := fun w => fright_any ⟨kind, 0, 0, 0, 0, false, false, X⟩ w
  have R3 := fun w => fright_any ⟨kind, 0, 0, 0, 0, true, false, X⟩ w
  rw [right_more] at R3
  have Wr := fun w => fwrite_any ⟨kind, 0, 0, 0, 0, false, false, X⟩ w
  have ew : (Fl.mk kind 0 0 0 0 false false X).wordR = if (Fl.mk kind 0 0 0 0 false false X).rightB = true then ((Fl.mk kind 0 0 0 0 false false X).word, 0) else (0, 1) := rfl
  rw [ew] at Wr
  simp only [flv, flc] at R1 R2 R3 Wr
  clear ew HDB
  generalize headB a0 a1 a2 a3 ⟨#[]⟩ = hb at *
  generalize (Fl.mk kind 0 0 0 0 false false X).word = p at *
  go_wp2_with fail
  go_at_call 12
  refine (R1 _).mono ?_
  rintro e w2 ⟨rfl, hb2⟩
  have HB2 : Hid (Below w.heap.size w w2) := below_step HB1.out hb2
  clear hb2 R1 c0 c1 c2 c3
  go_upto_region 7 with fail
  go_cut [10] (fun s10 we => s10 = .bool (Fl.mk kind 0 0 0 0 false false X).rightB ∧ we = w2.alloc (.cells (flc ⟨kind, 0, 0, 0, 0, false, false, X⟩) 23))
  case first =>
    clear R2 R3 Wr
    by_cases k1 : kind = 1
    · subst k1
      obtain ⟨b5, h5⟩ : ∃ b, b = X.toList.isEmpty := ⟨_, rfl⟩
      have HE : Hid ((Fl.mk 1 0 0 0 0 false false X).rightB = b5) := by
        show _ = _
        rw [fl_right_one rfl, head_iff, h5]
        rfl
      replace h5 := h5.symm
      cases b5
      all_goals
        go_wp2_with fail
        go_meet
        exact ⟨by rw [HE.out], rfl⟩
    by_cases k2 : kind = 2
    · subst k2
      have ho : (Fl.mk 2 0 0 0 0 false false X).onlyB = true := by rw [fl_only_iff]; rfl
      by_cases h6 : X.size = 6
      · have HE : Hid ((Fl.mk 2 0 0 0 0 false false X).rightB = true) := by
          show _ = _
          rw [fl_right_two rfl, ho, decide_eq_true h6]
          rfl
        have t1 : ((X.size : Int) == 6) = true := by simp; omega
        clear h6 ho
        go_wp2_with fail
        go_meet
        exact ⟨by rw [HE.out], rfl⟩
      · have HE : Hid ((Fl.mk 2 0 0 0 0 false false X).rightB = false) := by
          show _ = _
          rw [fl_right_two rfl, ho, decide_eq_false h6]
          rfl
        have t1 : ((X.size : Int) == 6) = false := by simp; omega
        clear h6 ho
        go_wp2_with fail
        go_meet
        exact ⟨by rw [HE.out], rfl⟩
    by_cases k3 : kind = 3
    · subst k3
      have ho : (Fl.mk 3 0 0 0 0 false false X).onlyB = true := by rw [fl_only_iff]; rfl
      by_cases h6 : X.size ≤ 6
      · have HE : Hid ((Fl.mk 3 0 0 0 0 false false X).rightB = true) := by
          show _ = _
          rw [fl_right_three rfl, ho, decide_eq_true h6]
          rfl
        have t1 : decide ((X.size : Int) < 7) = true := by simp; omega
        clear h6 ho
        go_wp2_with fail
        go_meet
        exact ⟨by rw [HE.out], rfl⟩
      · have HE : Hid ((Fl.mk 3 0 0 0 0 false false X).rightB = false) := by
          show _ = _
          rw [fl_right_three rfl, ho, decide_eq_false h6]
          rfl
        have t1 : decide ((X.size : Int) < 7) = false := by simp; omega
        clear h6 ho
        go_wp2_with fail
        go_meet
        exact ⟨by rw [HE.out], rfl⟩
    · have HE : Hid ((Fl.mk kind 0 0 0 0 false false X).rightB = false) := by
        show _ = _
        exact fl_right_none k1 k2 k3
      have t1 : (kind == 1) = false := by simpa using k1
      have t2 : (kind == 2) = false := by simpa using k2
      have t3 : (kind == 3) = false := by simpa using k3
      clear k1 k2 k3
      go_wp2_with fail
      go_meet
      exact ⟨by rw [HE.out], rfl⟩
  case rest =>
  obtain ⟨rfl, rfl⟩ := hcut
  generalize (Fl.mk kind 0 0 0 0 false false X).rightB = wt at *
  cases wt
  · simp only [Bool.false_and, Bool.false_eq_true, if_false] at R3 Wr
    go_wp2_with fail
    go_at_call 10
    refine (Wr _).mono ?_
    rintro e w3 ⟨rfl, hb3⟩
    have HB3 : Hid (Below w.heap.size w (w3.alloc (.cells (flc ⟨kind, 0, 0, 0, 0, true, false, X⟩) 23))) := (below_step (HB2.out.alloc HB2.out.size _) hb3).alloc (below_step (HB2.out.alloc HB2.out.size _) hb3).size _
    obtain ⟨d0, d1, d2, d3, d4, d5, d6, d7⟩ := eight_cells (flit_block (new_flit w2 ⟨kind, 0, 0, 0, 0, false, false, X⟩) hb3 (by simp))
    have hz3 : w2.heap.size < w3.heap.size := by have := hb3.size; simp at this; omega
    clear hb3 Wr
    go_wp2_with fail
    go_at_call 12
    refine (R2 _).mono ?_
    rintro e w4 ⟨rfl, hb4⟩
    have HB4 : Hid (Below w.heap.size w w4) := below_step HB3.out hb4
    obtain ⟨g0, g1, g2, g3, g4, g5, g6, g7⟩ := eight_cells (flit_block (new_flit w3 ⟨kind, 0, 0, 0, 0, true, false, X⟩) hb4 (by simp))
    clear hb4 R2 d0 d1 d2 d3 d4 d5 d6 d7
    go_wp2_with fail
    go_at_call 12
    refine (R3 _).mono ?_
    rintro e w5 ⟨rfl, hb5⟩
    have HB5 : Hid (Below w.heap.size w w5) := below_step HB4.out hb5
    clear hb5 R3 g0 g1 g2 g3 g4 g5 g6 g7
    go_wp2
    go_ret
    exact ⟨rfl, HB5.out⟩
  · simp only [Bool.true_and, if_true] at R3 Wr
    by_cases k1 : kind = 1
    · have t1 : (kind == 1) = true := by simpa using k1
      rw [t1] at R3
      subst k1
      go_wp2_with fail
      go_at_call 10
      refine (Wr _).mono ?_
      rintro e w3 ⟨rfl, hb3⟩
      have HB3 : Hid (Below w.heap.size w (w3.alloc (.cells (flc ⟨1, 0, 0, 0, 0, true, false, X⟩) 23))) := (below_step (HB2.out.alloc HB2.out.size _) hb3).alloc (below_step (HB2.out.alloc HB2.out.size _) hb3).size _
      obtain ⟨d0, d1, d2, d3, d4, d5, d6, d7⟩ := eight_cells (flit_block (new_flit w2 ⟨1, 0, 0, 0, 0, false, false, X⟩) hb3 (by simp))
      have hz3 : w2.heap.size < w3.heap.size := by have := hb3.size; simp at this; omega
      clear hb3 Wr
      go_wp2_with fail
      go_at_call 12
      refine (R2 _).mono ?_
      rintro e w4 ⟨rfl, hb4⟩
      have HB4 : Hid (Below w.heap.size w w4) := below_step HB3.out hb4
      obtain ⟨g0, g1, g2, g3, g4, g5, g6, g7⟩ := eight_cells (flit_block (new_flit w3 ⟨1, 0, 0, 0, 0, true, false, X⟩) hb4 (by simp))
      clear hb4 R2 d0 d1 d2 d3 d4 d5 d6 d7
      go_wp2_with fail
      go_at_call 12
      refine (R3 _).mono ?_
      rintro e w5 ⟨rfl, hb5⟩
      have HB5 : Hid (Below w.heap.size w w5) := below_step HB4.out hb5
      clear hb5 R3 g0 g1 g2 g3 g4 g5 g6 g7
      go_wp2
      go_ret
      exact ⟨rfl, HB5.out⟩
    · have t1 : (kind == 1) = false := by simpa using k1
      rw [t1] at R3
      clear k1
      go_wp2_with fail
      go_at_call 10
      refine (Wr _).mono ?_
      rintro e w3 ⟨rfl, hb3⟩
      have HB3 : Hid (Below w.heap.size w (w3.alloc (.cells (flc ⟨kind, 0, 0, 0, 0, true, false, X⟩) 23))) := (below_step (HB2.out.alloc HB2.out.size _) hb3).alloc (below_step (HB2.out.alloc HB2.out.size _) hb3).size _
      obtain ⟨d0, d1, d2, d3, d4, d5, d6, d7⟩ := eight_cells (flit_block (new_flit w2 ⟨kind, 0, 0, 0, 0, false, false, X⟩) hb3 (by simp))
      have hz3 : w2.heap.size < w3.heap.size := by have := hb3.size; simp at this; omega
      clear hb3 Wr
      go_wp2_with fail
      go_at_call 12
      refine (R2 _).mono ?_
      rintro e w4 ⟨rfl, hb4⟩
      have HB4 : Hid (Below w.heap.size w w4) := below_step HB3.out hb4
      obtain ⟨g0, g1, g2, g3, g4, g5, g6, g7⟩ := eight_cells (flit_block (new_flit w3 ⟨kind, 0, 0, 0, 0, true, false, X⟩) hb4 (by simp))
      clear hb4 R2 d0 d1 d2 d3 d4 d5 d6 d7
      go_wp2_with fail
      go_at_call 12
      refine (R3 _).mono ?_
      rintro e w5 ⟨rfl, hb5⟩
      have HB5 : Hid (Below w.heap.size w w5) := below_step HB4.out hb5
      clear hb5 R3 g0 g1 g2 g3 g4 g5 g6 g7
      go_wp2
      go_ret
      exact ⟨rfl, HB5.out⟩
end Go.Proofs.Ytfgjfopgbdmglaa
