/-
  The document's example holds: the walks of some and lives.
-/
import Derived.Test.YtcebfkkpclnmoaaDoorPlan
import Derived.Test.YtcebfkkpclnmoaaDoorRway
import Derived.Test.YtcebfkkpclnmoaaDoorNodeS
import Derived.Test.YtcebfkkpclnmoaaDoorFar
namespace Go.Proofs.YtcebfkkpclnmoaaDoor
open Go.RowKit

def ex8 : Cf := ⟨4, 4, 2, 1, 1, 1, 1, false, true⟩
theorem ex8_is (n : Int) (h0 : 0 ≤ n) (h1 : n < 16) : isN ex8 n = true := by
  unfold isN
  rw [show nod ex8 = 16 by decide +kernel]
  simp [h0, h1]
theorem ex8_lb : lb ex8 7 = 4 ∧ lb ex8 4 = 7 ∧ ple ex8 7 = 0 ∧ ple ex8 4 = 0 := by decide +kernel
theorem ex8_st : stp ex8 3 7 = 3 ∧ stB ex8 3 7 = true := by decide +kernel
theorem ex8_wy : (wys ex8 3 [7]).length = 2 := by decide +kernel
theorem ex8_srt : srt ex8 [0, 15, 5, 9] = [0, 5, 9, 15] := by
  refine (srt_uniq (c := ex8) (zs := [0, 15, 5, 9]) (ss := [0, 5, 9, 15]) ?_ (by decide +kernel) ?_).symm
  · intro n hn
    simp at hn
    rcases hn with rfl | rfl | rfl | rfl <;> exact ex8_is _ (by decide) (by decide)
  · refine List.Pairwise.cons ?_ (List.Pairwise.cons ?_ (List.Pairwise.cons ?_ (List.Pairwise.cons ?_ List.Pairwise.nil)))
    all_goals
      intro n hn
      unfold leL
      simp at hn
    · rcases hn with rfl | rfl | rfl <;> decide +kernel
    · rcases hn with rfl | rfl <;> decide +kernel
    · rcases hn with rfl; decide +kernel
theorem ex8_pl : plB ex8 5 [0, 15, 5, 9] = true ∧ (plG ex8 5 [0, 15, 5, 9]).length = 2 ∧ (plL ex8 5 [0, 15, 5, 9]).length = 1 ∧ (plS ex8 5 [0, 15, 5, 9]).length = 1 := by
  have h : plB ex8 5 [0, 15, 5, 9] = true := by decide +kernel
  refine ⟨h, ?_, ?_, ?_⟩
  · unfold plG; rw [if_pos h, ex8_srt]; decide +kernel
  · unfold plL; rw [if_pos h, ex8_srt]; decide +kernel
  · unfold plS; rw [if_pos h, ex8_srt]; decide +kernel

theorem some_any (w : World) : Calls Tryd.prog 28 #[] w fun e w' => e = .returned (cfv ex8) ∧ Below w.heap.size w w' := by
  go_enter Tryd.func28, Tryd.ntmps28
  go_wp2
  exact bodyPost_ret (v := cfv ex8) (by simp [results, Tryd.results28, go_sem, ex8]) rfl ⟨rfl, (Below.refl _ _).alloc (Nat.le_refl _) _⟩

/-- A row that is answered, as a slice. -/
theorem Row.rd {w w' : World} {l : List Int} {e : Ending} (h : Row w l e w') : ∃ a cap, e = .returned (.slice a l.length cap) ∧ l.length ≤ cap ∧ Rd w' a (vi l) ∧ Own 3 w' w.heap.size (.slice a l.length cap) (vi l) ∧ Below w.heap.size w w' := by
  obtain ⟨v, rfl, own, hb⟩ := h
  obtain ⟨a, cap, rfl, h1, _, h2⟩ := own.rd
  rw [vi_len] at h1 own ⊢
  exact ⟨a, cap, rfl, h1, h2, own, hb⟩
/-- A new block of cells: what lies in it. -/
theorem new_cell (w : World) (cs : Array Value) (t : TypeId) (j : Nat) : (w.alloc (.cells cs t)).cell? ⟨w.heap.size, j, none⟩ = cs[j]? := cell_of (heap_alloc_new w _) j
theorem PlT.rd {c : Cf} {f : Int} {zs : List Int} {w w' : World} {e : Ending} (h : PlT c f zs w e w') : ∃ a b d n m k, e = .returned (.tuple #[.agg #[.slice a (plG c f zs).length n, .slice b (plL c f zs).length m, .slice d (plS c f zs).length k], .int .i64 (if plB c f zs = true then 0 else 6)]) ∧
    Own 3 w' w.heap.size (.slice a (plG c f zs).length n) (vi (plG c f zs)) ∧ Own 3 w' w.heap.size (.slice b (plL c f zs).length m) (vi (plL c f zs)) ∧ Own 3 w' w.heap.size (.slice d (plS c f zs).length k) (vi (plS c f zs)) ∧ Below w.heap.size w w' := by
  obtain ⟨va, vb, vc, rfl, oa, ob, oc, hb⟩ := h
  obtain ⟨a, n, rfl, -, -, -⟩ := oa.rd
  obtain ⟨b, m, rfl, -, -, -⟩ := ob.rd
  obtain ⟨d, k, rfl, -, -, -⟩ := oc.rd
  simp only [vi_len] at oa ob oc ⊢
  exact ⟨a, b, d, n, m, k, rfl, oa, ob, oc, hb⟩

set_option maxRecDepth 100000 in
set_option maxHeartbeats 1000000 in
theorem lives_any (w : World) (hS : Steps w) : Calls Tryd.prog 10 #[] w fun e w' => e = .returned (.bool true) ∧ Below w.heap.size w w' := by
  have K0 := fun v => some_any v
  have K1 := fun v => label_any ex8 7 v
  rw [ex8_lb.1, ex8_lb.2.2.1] at K1
  have K2 := fun v => snode_any ex8 4 v
  rw [ex8_lb.2.1, ex8_lb.2.2.2] at K2
  have K3 := fun v h => step_any ex8 3 7 v h
  rw [ex8_st.1, ex8_st.2] at K3
  have K4 : ∀ (v : World) (g : Nat), RdA v (some ⟨g, 0, none⟩) (vi [0, 15, 5, 9]) → Calls Tryd.prog 18 #[cfv ex8, .int .i64 5, .slice (some ⟨g, 0, none⟩) 4 4] v (fun e w' => ∃ a b d n m k, e = .returned (.tuple #[.agg #[.slice a 2 n, .slice b 1 m, .slice d 1 k], .int .i64 0]) ∧ Below v.heap.size v w') := fun v g h =>
    (plan_any ex8 5 (some ⟨g, 0, none⟩) [0, 15, 5, 9] 4 v (by decide) h).mono fun e w' h => by
      obtain ⟨a, b, d, n, m, k, e1, _, _, _, hb⟩ := h.rd
      rw [ex8_pl.1, ex8_pl.2.1, ex8_pl.2.2.1, ex8_pl.2.2.2] at e1
      exact ⟨a, b, d, n, m, k, e1, hb⟩
  have K5 : ∀ (v : World) (g : Nat), Steps v → RdA v (some ⟨g, 0, none⟩) (vi [7]) → Calls Tryd.prog 23 #[cfv ex8, .int .i64 3, .slice (some ⟨g, 0, none⟩) 1 1] v (fun e w' => e = .returned (.int .i64 1) ∧ Below v.heap.size v w') := fun v g hS h =>
    (steps_any ex8 3 (some ⟨g, 0, none⟩) [7] 1 v hS (by decide) h).mono fun e w' h => by
      rw [ex8_wy] at h
      exact h
  have HS : Hid (Steps w) := hS
  clear hS
  unfold ex8 at *
  simp only [cfv, cfc] at *
  go_enter Tryd.func10, Tryd.ntmps10
  have B0 : Hid (Below w.heap.size w w) := Below.refl _ _
  go_wp2_with fail
  go_at_call 28
  refine (K0 _).mono ?_
  rintro e u1 ⟨rfl, hb⟩
  have C1 : Hid (Below w.heap.size w u1) := nxt B0.out hb
  clear hb B0
  go_wp2_with fail
  go_at_call 11
  refine (K1 _).mono ?_
  rintro e v1 ⟨rfl, hb⟩
  have B1 : Hid (Below w.heap.size w v1) := nxt C1.out hb
  clear hb K1 C1
  go_wp2_with fail
  go_at_call 28
  refine (K0 _).mono ?_
  rintro e u2 ⟨rfl, hb⟩
  have C2 : Hid (Below w.heap.size w u2) := nxt B1.out hb
  clear hb B1
  go_wp2_with fail
  go_at_call 13
  refine (K2 _).mono ?_
  rintro e v2 ⟨rfl, hb⟩
  have B2 : Hid (Below w.heap.size w v2) := nxt C2.out hb
  clear hb K2 C2
  go_wp2_with fail
  go_at_call 28
  refine (K0 _).mono ?_
  rintro e u3 ⟨rfl, hb⟩
  have C3 : Hid (Below w.heap.size w u3) := nxt B2.out hb
  clear hb B2
  go_wp2_with fail
  go_at_call 15
  refine (K3 _ (HS.out.next C3.out)).mono ?_
  rintro e v3 ⟨rfl, hb⟩
  have B3 : Hid (Below w.heap.size w v3) := nxt C3.out hb
  clear hb K3 C3
  go_wp2_with fail
  go_at_call 28
  refine (K0 _).mono ?_
  rintro e u4 ⟨rfl, hb⟩
  have C4 : Hid (Below w.heap.size w u4) := nxt B3.out hb
  clear hb B3
  go_wp2_with fail
  have R4 : RdA (u4.alloc (.cells #[.int .i64 0, .int .i64 15, .int .i64 5, .int .i64 9] 3)) (some ⟨u4.heap.size, 0, none⟩) (vi [0, 15, 5, 9]) := fun j x hj => ⟨u4.heap.size, 0, rfl, by simp, by rw [Nat.zero_add, new_cell]; simpa [vi] using hj⟩
  go_at_call 18
  refine (K4 _ _ R4).mono ?_
  rintro e v4 ⟨a, b, d, n, m, k, rfl, hb⟩
  have B4 : Hid (Below w.heap.size w v4) := nxt (C4.out.alloc (by have := C4.out.size; omega) _) hb
  clear hb K4 C4 R4
  have hq : Hid (Below w.heap.size w (v4.alloc (.cells #[.slice a 2 n, .slice b 1 m, .slice d 1 k] 33))) := B4.out.alloc B4.out.size _
  go_wp2_with fail
  go_at_call 28
  refine (K0 _).mono ?_
  rintro e u5 ⟨rfl, hb⟩
  have C5 : Hid (Below w.heap.size w u5) := nxt hq.out hb
  clear hb B4 hq
  go_wp2_with fail
  have R5 : RdA (u5.alloc (.cells #[.int .i64 7] 3)) (some ⟨u5.heap.size, 0, none⟩) (vi [7]) := fun j x hj => ⟨u5.heap.size, 0, rfl, by simp, by rw [Nat.zero_add, new_cell]; simpa [vi] using hj⟩
  go_at_call 23
  refine (K5 _ _ (HS.out.next (C5.out.alloc C5.out.size _)) R5).mono ?_
  rintro e v5 ⟨rfl, hb⟩
  have B5 : Hid (Below w.heap.size w v5) := nxt (C5.out.alloc C5.out.size _) hb
  clear hb K5 C5 R5
  go_wp2
  go_ret
  exact ⟨rfl, B5.out⟩
end Go.Proofs.YtcebfkkpclnmoaaDoor
