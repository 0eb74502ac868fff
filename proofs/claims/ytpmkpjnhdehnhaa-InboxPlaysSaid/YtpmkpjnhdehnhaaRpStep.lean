/-
  Each call of a ring as one contract with plain functions on the state.
-/
import Derived.Test.YtpmkpjnhdehnhaaRpPush
namespace Go.Proofs.Ytpmkpjnhdehnhaa.RP
open Go.RowKit

def layE (s : RingSt) : Int := if s.laid then 13 else if s.free = 0 then 7 else 0
def layS (s : RingSt) (v : Pk) : RingSt := if layE s = 0 then s.lay v else s
def pubE (s : RingSt) : Int := if s.laid then 0 else 13
def pubS (s : RingSt) : RingSt := if s.laid then s.published else s
def pushS (s : RingSt) (v : Pk) : RingSt := if layE s = 0 then (s.lay v).published else s
def peekV (s : RingSt) : Pk := s.xs.headD zc
def peekE (s : RingSt) : Int := if s.xs = [] then 8 else 0
def freeS (s : RingSt) : RingSt := if s.xs = [] then s else s.freed

theorem Fr.grown {b pb : Nat} {x y z : World} {row : Option Nat} (h : Fr b pb x y) (hg : y.grownBy z row) (hr : ∀ k, row = some k → x.heap.size ≤ k) : Fr b pb x z :=
  ⟨hg.os.trans h.os, hg.tape.trans h.tape, hg.output.trans h.output, Nat.le_trans h.size hg.size, fun k hk h1 h2 => by
    have := h.size
    rw [hg.block k (by omega) (fun e => by have := hr k e.symm; omega), h.block k hk h1 h2]⟩

section
variable {w : World} {b pb m : Nat} {s : RingSt}

theorem free_pos (h : RingAt w b pb m s) (hla : s.laid = false) (hf : ¬ s.free = 0) : (s.xs.length : Int) < min (max s.room 1) 4096 := by
  have := h.1.hcap
  rw [RingSt.free] at hf
  rw [hla] at this hf
  simp only [one] at this hf
  simp at this hf
  omega

theorem ring_lay (h : RingAt w b pb m s) (v : Pk) :
    Calls Try.prog 39 #[.pointer (some ⟨b, 0, none⟩), pkv v] w fun e w' => e = .returned (.int .i64 (layE s)) ∧ Stp b pb w w' (layS s v) := by
  cases hla : s.laid
  · by_cases hf : s.free = 0
    · have e1 : layE s = 7 := by simp [layE, hla, hf]
      have e2 : layS s v = s := by simp [layS, e1]
      refine (lay_full h hla hf v).mono ?_
      rintro e w' ⟨rfl, hb⟩
      rw [e1, e2]
      exact ⟨rfl, Stp.ofBelow h hb⟩
    · have e1 : layE s = 0 := by simp [layE, hla, hf]
      have e2 : layS s v = s.lay v := by simp [layS, e1]
      refine (lay_ok h hla (free_pos h hla hf) v).mono ?_
      rintro e w' ⟨rfl, h2⟩
      rw [e1, e2]
      exact ⟨rfl, h2⟩
  · have e1 : layE s = 13 := by simp [layE, hla]
    have e2 : layS s v = s := by simp [layS, e1]
    refine (lay_laid h hla v).mono ?_
    rintro e w' ⟨rfl, hb⟩
    rw [e1, e2]
    exact ⟨rfl, Stp.ofBelow h hb⟩

theorem ring_publish (h : RingAt w b pb m s) :
    Calls Try.prog 40 #[.pointer (some ⟨b, 0, none⟩)] w fun e w' => e = .returned (.int .i64 (pubE s)) ∧ Stp b pb w w' (pubS s) := by
  cases hla : s.laid
  · refine (ring_publish_none h hla).mono ?_
    rintro e w' ⟨rfl, rfl⟩
    simp only [pubE, pubS, hla]
    exact ⟨rfl, Stp.ofSame h⟩
  · refine (ring_publish_some h hla).mono ?_
    rintro e w' ⟨rfl, h1, h2⟩
    simp only [pubE, pubS, hla]
    exact ⟨rfl, pb, m, h1, h2, Or.inl rfl⟩

theorem ring_free (h : RingAt w b pb m s) :
    Calls Try.prog 41 #[.pointer (some ⟨b, 0, none⟩)] w fun e w' => e = .returned (.int .i64 (peekE s)) ∧ ∃ n, RingAt w' b pb m (freeS s) ∧ Fr b pb w w' ∧ (s.xs = [] → w' = w.drewN n) := by
  cases hx : s.xs with
  | nil =>
    refine (ring_free_none h hx).mono ?_
    rintro e w' ⟨rfl, n, rfl⟩
    simp only [peekE, freeS, hx]
    exact ⟨rfl, n, h.drewN n, (Fr.refl _ _ _).drewN n, fun _ => rfl⟩
  | cons x r =>
    refine (ring_free_some h hx).mono ?_
    rintro e w' ⟨rfl, h1, h2⟩
    simp only [peekE, freeS, hx]
    exact ⟨rfl, 0, h1, h2, fun c => by cases c⟩

theorem ring_peek (h : RingAt w b pb m s) :
    Calls Try.prog 36 #[.pointer (some ⟨b, 0, none⟩)] w fun e w' => e = .returned (.tuple #[pkv (peekV s), .int .i64 (peekE s)]) ∧ Below w.heap.size w w' := by
  cases hx : s.xs with
  | nil =>
    refine (ring_peek_none h hx).mono ?_
    rintro e w' ⟨rfl, h⟩
    simp only [peekE, peekV, hx]
    exact ⟨rfl, h⟩
  | cons x r =>
    refine (ring_peek_some h hx).mono ?_
    rintro e w' ⟨rfl, h1⟩
    simp only [peekE, peekV, hx]
    exact ⟨rfl, h1⟩

set_option maxHeartbeats 4000000 in
theorem ring_pop (h : RingAt w b pb m s) :
    Calls Try.prog 35 #[.pointer (some ⟨b, 0, none⟩)] w fun e w' => e = .returned (.tuple #[pkv (peekV s), .int .i64 (peekE s)]) ∧ RingAt w' b pb m (freeS s) ∧ Fr b pb w w' := by
  have B0 : Hid (Below w.heap.size w (w.alloc (.cells #[.int .i64 0, .int .i64 0, .int .i64 0, .string ⟨#[]⟩] 33))) := box_below _ _
  have N0 : Hid ((w.alloc (.cells #[.int .i64 0, .int .i64 0, .int .i64 0, .string ⟨#[]⟩] 33)).heap[w.heap.size]? = some (.cells #[.int .i64 0, .int .i64 0, .int .i64 0, .string ⟨#[]⟩] 33 (0, 0))) := heap_alloc_new w _
  have K := ring_peek (h.next B0.out)
  have HF : Hid (∀ V, RingAt V b pb m s → Calls Try.prog 41 #[.pointer (some ⟨b, 0, none⟩)] V fun e w' => e = .returned (.int .i64 (peekE s)) ∧ ∃ n, RingAt w' b pb m (freeS s) ∧ Fr b pb V w' ∧ (s.xs = [] → w' = V.drewN n)) := show _ from fun V hV => ring_free hV
  obtain ⟨hb1, hb2⟩ := h.lt
  have HH : Hid (RingAt w b pb m s) := h
  clear h
  by_cases hx : s.xs = []
  · have e1 : peekE s = 8 := by simp [peekE, hx]
    have e2 : freeS s = s := by simp [freeS, hx]
    rw [e1] at K ⊢
    rw [e2]
    clear HF e1 e2 hx
    generalize peekV s = x at *
    obtain ⟨xa, xb, xc, xd⟩ := x
    simp only [pkv] at K ⊢
    go_enter Try.func35, Try.ntmps35
    go_upto_region 1 with fail
    generalize (w.alloc (.cells #[.int .i64 0, .int .i64 0, .int .i64 0, .string ⟨#[]⟩] 33)) = v0 at *
    go_upto_region 2 with (go_at_call 36; refine K.mono ?_; rintro e w1 ⟨rfl, hb1⟩)
    have B1 : Below w.heap.size w w1 := B0.out.trans (hb1.mono B0.out.size)
    have B2 : Hid (Below w.heap.size w (w1.alloc (.cells #[.int .i64 xa, .int .i64 xb, .int .i64 xc, .string xd] 33))) := B1.alloc B1.size _
    have N2 : Hid ((w1.alloc (.cells #[.int .i64 xa, .int .i64 xb, .int .i64 xc, .string xd] 33)).heap[w.heap.size]? = some (.cells #[.int .i64 0, .int .i64 0, .int .i64 0, .string ⟨#[]⟩] 33 (0, 0))) := show _ from by
      rw [Below.heap_alloc _ _ _ (Nat.lt_of_lt_of_le (lt_of_heap N0.out) hb1.size), hb1.block _ (lt_of_heap N0.out)]
      exact N0.out
    have M2 : Hid ((w1.alloc (.cells #[.int .i64 xa, .int .i64 xb, .int .i64 xc, .string xd] 33)).heap[w1.heap.size]? = some (.cells #[.int .i64 xa, .int .i64 xb, .int .i64 xc, .string xd] 33 (0, 0))) := heap_alloc_new w1 _
    have hw1 : w.heap.size < w1.heap.size := Nat.lt_of_lt_of_le (lt_of_heap N0.out) hb1.size
    clear hb1 B1 K B0 N0
    generalize w1.alloc (.cells #[.int .i64 xa, .int .i64 xb, .int .i64 xc, .string xd] 33) = v2 at *
    generalize w1.heap.size = nb at *
    have N3 : Hid (v2.heap[w.heap.size]? = some (.cells #[.int .i64 0, .int .i64 0, .int .i64 0, .string ⟨#[]⟩] 33 (0, 0))) := N2.out
    have M3 : v2.heap[nb]? = some (.cells #[.int .i64 xa, .int .i64 xb, .int .i64 xc, .string xd] 33 (0, 0)) := M2.out
    have F3 : Hid (Fr b pb w v2) := Fr.ofBelow B2.out (Nat.le_refl _)
    have R3 : Hid (RingAt v2 b pb m s) := HH.out.next B2.out
    have m0 := cell_of M3 0
    have m1 := cell_of M3 1
    have m2 := cell_of M3 2
    have m3 := cell_of M3 3
    have n0 := cell_of N3.out 0
    have n1 := cell_of N3.out 1
    have n2 := cell_of N3.out 2
    have n3 := cell_of N3.out 3
    have f0 := frozen_of N3.out 0
    have f1 := frozen_of N3.out 1
    have f2 := frozen_of N3.out 2
    have f3 := frozen_of N3.out 3
    simp only [List.getElem?_toArray, List.getElem?_cons_zero, List.getElem?_cons_succ] at m0 m1 m2 m3 n0 n1 n2 n3
    have yy := heap_set (heap_set (heap_set (heap_set N3.out 0 (.int .i64 xa)) 1 (.int .i64 xb)) 2 (.int .i64 xc)) 3 (.string xd)
    have Y0 := (cell_of yy 0).trans (by simp : _ = some (Value.int .i64 xa))
    have Y1 := (cell_of yy 1).trans (by simp : _ = some (Value.int .i64 xb))
    have Y2 := (cell_of yy 2).trans (by simp : _ = some (Value.int .i64 xc))
    have Y3 := (cell_of yy 3).trans (by simp : _ = some (Value.string xd))
    clear yy M3
    go_wp2
    have F4 : Fr b pb w ((((v2.setCell ⟨w.heap.size, 0, none⟩ (.int .i64 xa)).setCell ⟨w.heap.size, 1, none⟩ (.int .i64 xb)).setCell ⟨w.heap.size, 2, none⟩ (.int .i64 xc)).setCell ⟨w.heap.size, 3, none⟩ (.string xd)) := (((F3.out.setCell (Or.inr (Or.inr (Nat.le_refl _))) _).setCell (Or.inr (Or.inr (Nat.le_refl _))) _).setCell (Or.inr (Or.inr (Nat.le_refl _))) _).setCell (Or.inr (Or.inr (Nat.le_refl _))) _
    have R4 : RingAt ((((v2.setCell ⟨w.heap.size, 0, none⟩ (.int .i64 xa)).setCell ⟨w.heap.size, 1, none⟩ (.int .i64 xb)).setCell ⟨w.heap.size, 2, none⟩ (.int .i64 xc)).setCell ⟨w.heap.size, 3, none⟩ (.string xd)) b pb m s := R3.out.keep ((heap_set_ne _ (by show b ≠ w.heap.size; omega)).trans ((heap_set_ne _ (by show b ≠ w.heap.size; omega)).trans ((heap_set_ne _ (by show b ≠ w.heap.size; omega)).trans (heap_set_ne _ (by show b ≠ w.heap.size; omega))))) ((heap_set_ne _ (by show pb ≠ w.heap.size; omega)).trans ((heap_set_ne _ (by show pb ≠ w.heap.size; omega)).trans ((heap_set_ne _ (by show pb ≠ w.heap.size; omega)).trans (heap_set_ne _ (by show pb ≠ w.heap.size; omega)))))
    refine bodyPost_ret (v := .tuple #[.agg #[.int .i64 xa, .int .i64 xb, .int .i64 xc, .string xd], .int .i64 8]) (by simp [results, Try.results35, go_sem, Y0, Y1, Y2, Y3]; try rfl) rfl ⟨rfl, R4, F4⟩
  · have e1 : peekE s = 0 := by simp [peekE, hx]
    rw [e1] at K HF ⊢
    clear e1 hx
    generalize peekV s = x at *
    generalize freeS s = s' at *
    obtain ⟨xa, xb, xc, xd⟩ := x
    simp only [pkv] at K ⊢
    go_enter Try.func35, Try.ntmps35
    go_upto_region 1 with fail
    generalize (w.alloc (.cells #[.int .i64 0, .int .i64 0, .int .i64 0, .string ⟨#[]⟩] 33)) = v0 at *
    go_upto_region 2 with (go_at_call 36; refine K.mono ?_; rintro e w1 ⟨rfl, hb1⟩)
    have B1 : Below w.heap.size w w1 := B0.out.trans (hb1.mono B0.out.size)
    have B2 : Hid (Below w.heap.size w (w1.alloc (.cells #[.int .i64 xa, .int .i64 xb, .int .i64 xc, .string xd] 33))) := B1.alloc B1.size _
    have N2 : Hid ((w1.alloc (.cells #[.int .i64 xa, .int .i64 xb, .int .i64 xc, .string xd] 33)).heap[w.heap.size]? = some (.cells #[.int .i64 0, .int .i64 0, .int .i64 0, .string ⟨#[]⟩] 33 (0, 0))) := show _ from by
      rw [Below.heap_alloc _ _ _ (Nat.lt_of_lt_of_le (lt_of_heap N0.out) hb1.size), hb1.block _ (lt_of_heap N0.out)]
      exact N0.out
    have M2 : Hid ((w1.alloc (.cells #[.int .i64 xa, .int .i64 xb, .int .i64 xc, .string xd] 33)).heap[w1.heap.size]? = some (.cells #[.int .i64 xa, .int .i64 xb, .int .i64 xc, .string xd] 33 (0, 0))) := heap_alloc_new w1 _
    have hw1 : w.heap.size < w1.heap.size := Nat.lt_of_lt_of_le (lt_of_heap N0.out) hb1.size
    clear hb1 B1 K B0 N0
    generalize w1.alloc (.cells #[.int .i64 xa, .int .i64 xb, .int .i64 xc, .string xd] 33) = v2 at *
    generalize w1.heap.size = nb at *
    have FC := HF.out v2 (HH.out.next B2.out)
    go_upto_region 4 with (go_at_call 41; refine FC.mono ?_; rintro e w3 ⟨rfl, _, hR, hF, _⟩)
    have N3 : Hid (w3.heap[w.heap.size]? = some (.cells #[.int .i64 0, .int .i64 0, .int .i64 0, .string ⟨#[]⟩] 33 (0, 0))) := show _ from by
      rw [hF.block _ (lt_of_heap N2.out) (by omega) (by omega)]
      exact N2.out
    have M3 : w3.heap[nb]? = some (.cells #[.int .i64 xa, .int .i64 xb, .int .i64 xc, .string xd] 33 (0, 0)) := by
      rw [hF.block _ (lt_of_heap M2.out) (by omega) (by omega)]
      exact M2.out
    have F3 : Hid (Fr b pb w w3) := (Fr.ofBelow B2.out (Nat.le_refl _) : Fr b pb w v2).trans hF (Or.inl rfl)
    have R3 : Hid (RingAt w3 b pb m s') := hR
    clear FC hR hF N2 M2 B2
    have m0 := cell_of M3 0
    have m1 := cell_of M3 1
    have m2 := cell_of M3 2
    have m3 := cell_of M3 3
    have n0 := cell_of N3.out 0
    have n1 := cell_of N3.out 1
    have n2 := cell_of N3.out 2
    have n3 := cell_of N3.out 3
    have f0 := frozen_of N3.out 0
    have f1 := frozen_of N3.out 1
    have f2 := frozen_of N3.out 2
    have f3 := frozen_of N3.out 3
    simp only [List.getElem?_toArray, List.getElem?_cons_zero, List.getElem?_cons_succ] at m0 m1 m2 m3 n0 n1 n2 n3
    have yy := heap_set (heap_set (heap_set (heap_set N3.out 0 (.int .i64 xa)) 1 (.int .i64 xb)) 2 (.int .i64 xc)) 3 (.string xd)
    have Y0 := (cell_of yy 0).trans (by simp : _ = some (Value.int .i64 xa))
    have Y1 := (cell_of yy 1).trans (by simp : _ = some (Value.int .i64 xb))
    have Y2 := (cell_of yy 2).trans (by simp : _ = some (Value.int .i64 xc))
    have Y3 := (cell_of yy 3).trans (by simp : _ = some (Value.string xd))
    clear yy M3
    go_wp2
    have F4 : Fr b pb w ((((w3.setCell ⟨w.heap.size, 0, none⟩ (.int .i64 xa)).setCell ⟨w.heap.size, 1, none⟩ (.int .i64 xb)).setCell ⟨w.heap.size, 2, none⟩ (.int .i64 xc)).setCell ⟨w.heap.size, 3, none⟩ (.string xd)) := (((F3.out.setCell (Or.inr (Or.inr (Nat.le_refl _))) _).setCell (Or.inr (Or.inr (Nat.le_refl _))) _).setCell (Or.inr (Or.inr (Nat.le_refl _))) _).setCell (Or.inr (Or.inr (Nat.le_refl _))) _
    have R4 : RingAt ((((w3.setCell ⟨w.heap.size, 0, none⟩ (.int .i64 xa)).setCell ⟨w.heap.size, 1, none⟩ (.int .i64 xb)).setCell ⟨w.heap.size, 2, none⟩ (.int .i64 xc)).setCell ⟨w.heap.size, 3, none⟩ (.string xd)) b pb m s' := R3.out.keep ((heap_set_ne _ (by show b ≠ w.heap.size; omega)).trans ((heap_set_ne _ (by show b ≠ w.heap.size; omega)).trans ((heap_set_ne _ (by show b ≠ w.heap.size; omega)).trans (heap_set_ne _ (by show b ≠ w.heap.size; omega))))) ((heap_set_ne _ (by show pb ≠ w.heap.size; omega)).trans ((heap_set_ne _ (by show pb ≠ w.heap.size; omega)).trans ((heap_set_ne _ (by show pb ≠ w.heap.size; omega)).trans (heap_set_ne _ (by show pb ≠ w.heap.size; omega)))))
    refine bodyPost_ret (v := .tuple #[.agg #[.int .i64 xa, .int .i64 xb, .int .i64 xc, .string xd], .int .i64 0]) (by simp [results, Try.results35, go_sem, Y0, Y1, Y2, Y3]; try rfl) rfl ⟨rfl, R4, F4⟩

set_option maxHeartbeats 4000000 in
theorem ring_push (h : RingAt w b pb m s) (v : Pk) :
    Calls Try.prog 34 #[.pointer (some ⟨b, 0, none⟩), pkv v] w fun e w' => e = .returned (.int .i64 (layE s)) ∧ Stp b pb w w' (pushS s v) := by
  have B0 : Hid (Below w.heap.size w (w.alloc (.cells (pk4 v).toArray 33))) := box_below _ _
  have N0 : Hid ((w.alloc (.cells (pk4 v).toArray 33)).heap[w.heap.size]? = some (.cells (pk4 v).toArray 33 (0, 0))) := heap_alloc_new w _
  have K := ring_lay (h.next B0.out) v
  have up : Hid (∀ w' s', Stp b pb (w.alloc (.cells (pk4 v).toArray 33)) w' s' → Stp b pb w w' s') := show _ from fun w' s' hS => by
    obtain ⟨p, m', h1, h2, h3⟩ := hS
    refine ⟨p, m', h1, (Fr.ofBelow B0.out (Nat.le_refl _) : Fr b pb w _).trans h2 (Or.inl rfl), ?_⟩
    rcases h3 with h3 | h3
    · exact Or.inl h3
    · exact Or.inr (Nat.le_trans B0.out.size h3)
  have m0 := cell_of N0.out 0
  have m1 := cell_of N0.out 1
  have m2 := cell_of N0.out 2
  have m3 := cell_of N0.out 3
  simp only [List.getElem?_toArray, List.getElem?_cons_zero, List.getElem?_cons_succ] at m0 m1 m2 m3
  by_cases h0 : layE s = 0
  · have e1 : pushS s v = (s.lay v).published := by simp [pushS, h0]
    have e2 : layS s v = s.lay v := by simp [layS, h0]
    have e3 : pubS (s.lay v) = (s.lay v).published := by simp [pubS, RingSt.lay]
    have e4 : pubE (s.lay v) = 0 := by simp [pubE, RingSt.lay]
    rw [h0, e2] at K
    rw [e1, h0, ← e3]
    have HE : Hid (pubE (s.lay v) = 0) := e4
    clear h0 e1 e2 e3 e4 h N0 B0
    generalize s.lay v = s1 at *
    obtain ⟨va, vb, vc, vd⟩ := v
    simp only [pkv] at *
    go_enter Try.func34, Try.ntmps34
    go_upto_region 1 with fail
    generalize w.alloc (.cells #[.int .i64 va, .int .i64 vb, .int .i64 vc, .string vd] 33) = v0 at *
    go_wp2_with (go_at_call 39; refine K.mono ?_; rintro e w' ⟨rfl, pb', m', hR, hF, hP⟩)
    go_at_call 40
    refine (ring_publish hR).mono ?_
    rintro e w' ⟨rfl, pb2, m2, hR2, hF2, hP2⟩
    rw [HE.out]
    have hS : Stp b pb w w' (pubS s1) := up.out _ _ ⟨pb2, m2, hR2, hF.trans hF2 hP, by have := hF.size; omega⟩
    clear hR hF hP hR2 hF2 hP2
    go_wp2
    go_ret
    exact ⟨rfl, hS⟩
  · have e1 : pushS s v = s := by simp [pushS, h0]
    have e2 : layS s v = s := by simp [layS, h0]
    rw [e2] at K
    rw [e1]
    have h1 : (layE s == 0) = false := by simpa using h0
    have h2 : (layE s != 0) = true := by simpa using h0
    clear e1 e2 h h0 N0 B0
    generalize layE s = er at *
    obtain ⟨va, vb, vc, vd⟩ := v
    simp only [pkv] at *
    go_enter Try.func34, Try.ntmps34
    go_upto_region 1 with fail
    generalize w.alloc (.cells #[.int .i64 va, .int .i64 vb, .int .i64 vc, .string vd] 33) = v0 at *
    go_wp2_with (go_at_call 39; refine K.mono ?_; rintro e w' ⟨rfl, hS⟩)
    go_ret
    exact ⟨rfl, up.out _ _ hS⟩

end
end Go.Proofs.Ytpmkpjnhdehnhaa.RP
