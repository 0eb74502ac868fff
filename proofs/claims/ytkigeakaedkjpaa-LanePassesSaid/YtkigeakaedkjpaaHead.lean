/-
  The walks of below and isHead.
-/
import Derived.Test.YtkigeakaedkjpaaFit
namespace Go.Proofs.Ytkigeakaedkjpaa
open Go.RowKit

def belowB (n lim : Int) : Bool := decide (0 ≤ n ∧ n < lim)

theorem makes_func (fn : Fn) (first cap : Array Value) (w : World) : (Instr.makeFunc fn first cap).run Try.prog w = .ok (.func fn first cap) w := rfl

theorem below_any (n : Int) (w : World) : Calls Try.prog 85 #[.int .i64 n] w fun e w' => e = .returned (.func (.func 87) #[] #[.pointer (some ⟨w.heap.size, 0, none⟩)]) ∧ w' = w.alloc (.cells #[.int .i64 n] 3) := by
  have hmf := makes_func
  go_enter Try.func85, Try.ntmps85
  go_wp2
  go_ret
  exact ⟨rfl, rfl⟩

theorem below1_any (n lim : Int) (a : Addr) (w : World) (hc : w.cell? a = some (.int .i64 lim)) : Calls Try.prog 87 #[.int .i64 n, .pointer (some a)] w fun e w' => e = .returned (.bool (belowB n lim)) ∧ w = w' := by
  by_cases h1 : 0 ≤ n
  · by_cases h2 : n < lim
    · have e : belowB n lim = true := decide_eq_true ⟨h1, h2⟩
      rw [e]
      clear e
      go_enter Try.func87, Try.ntmps87
      go_wp2
      go_ret
      exact ⟨rfl, rfl⟩
    · have e : belowB n lim = false := decide_eq_false (by omega)
      rw [e]
      clear e
      go_enter Try.func87, Try.ntmps87
      go_wp2
      go_ret
      exact ⟨rfl, rfl⟩
  · have e : belowB n lim = false := decide_eq_false (by omega)
    rw [e]
    clear e
    go_enter Try.func87, Try.ntmps87
    go_wp2
    go_ret
    exact ⟨rfl, rfl⟩
def headB (s d q l : Int) (x : ByteArray) : Bool := belowB s 4096 && belowB d 4096 && belowB q 65536 && belowB l 65 && x.toList.isEmpty

/-- The heap behind isHead's beginning. -/
theorem head_cells (w : World) (A : Array Value) : ∀ W, W = (((w.alloc (.cells A 49)).alloc (.cells #[.int .i64 4096] 3)).alloc (.cells #[.int .i64 65536] 3)).alloc (.cells #[.int .i64 65] 3) →
    W.cell? ⟨w.heap.size + 1, 0, none⟩ = some (.int .i64 4096) ∧ W.cell? ⟨w.heap.size + 2, 0, none⟩ = some (.int .i64 65536) ∧ W.cell? ⟨w.heap.size + 3, 0, none⟩ = some (.int .i64 65) ∧ Below w.heap.size w W := by
  rintro W rfl
  refine ⟨?_, ?_, ?_, ((((Below.refl _ _).alloc (Nat.le_refl _) _).alloc (by simp) _).alloc (by simp; omega) _).alloc (by simp; omega) _⟩
  · rw [World.cell?_of_block (Below.heap_alloc _ _ _ (by simp)), World.cell?_of_block (Below.heap_alloc _ _ _ (by simp)), World.cell?_alloc_at _ _ _ _ (by simp)]; rfl
  · rw [World.cell?_of_block (Below.heap_alloc _ _ _ (by simp)), World.cell?_alloc_at _ _ _ _ (by simp)]; rfl
  · rw [World.cell?_alloc_at _ _ _ _ (by simp)]; rfl

set_option maxHeartbeats 800000 in
theorem head_any (k s d q l : Int) (m c : Bool) (x : ByteArray) (w : World) :
    Calls Try.prog 80 #[.agg #[.int .i64 k, .int .i64 s, .int .i64 d, .int .i64 q, .int .i64 l, .bool m, .bool c, .string x]] w fun e w' => e = .returned (.bool (headB s d q l x)) ∧ Below w.heap.size w w' := by
  have K := fun n w => below_any n w
  obtain ⟨c1, c2, c3, bel⟩ := head_cells w #[.int .i64 k, .int .i64 s, .int .i64 d, .int .i64 q, .int .i64 l, .bool m, .bool c, .string x] _ rfl
  have C1 := below1_any s 4096 _ _ c1
  have C2 := below1_any d 4096 _ _ c1
  have C3 := below1_any q 65536 _ _ c2
  have C4 := below1_any l 65 _ _ c3
  have HB : Hid (Below w.heap.size w ((((w.alloc (.cells #[.int .i64 k, .int .i64 s, .int .i64 d, .int .i64 q, .int .i64 l, .bool m, .bool c, .string x] 49)).alloc (.cells #[.int .i64 4096] 3)).alloc (.cells #[.int .i64 65536] 3)).alloc (.cells #[.int .i64 65] 3))) := bel
  clear bel
  unfold headB
  obtain ⟨b5, h5⟩ : ∃ b, b = x.toList.isEmpty := ⟨_, rfl⟩
  rw [← h5]
  replace h5 := h5.symm
  clear c1 c2 c3
  generalize belowB s 4096 = b1 at *
  generalize belowB d 4096 = b2 at *
  generalize belowB q 65536 = b3 at *
  generalize belowB l 65 = b4 at *
  cases b1
  · go_enter Try.func80, Try.ntmps80
    go_wp2_with (first
      | (go_at_call 85; (with_reducible refine (K _ _).mono ?_); rintro e w' ⟨rfl, rfl⟩)
      | (go_at_call 87; (with_reducible refine C1.mono ?_); rintro e w' ⟨rfl, rfl⟩))
    go_ret
    exact ⟨rfl, HB.out⟩
  cases b2
  · go_enter Try.func80, Try.ntmps80
    go_wp2_with (first
      | (go_at_call 85; (with_reducible refine (K _ _).mono ?_); rintro e w' ⟨rfl, rfl⟩)
      | (go_at_call 87; (with_reducible refine C1.mono ?_); rintro e w' ⟨rfl, rfl⟩)
      | (go_at_call 87; (with_reducible refine C2.mono ?_); rintro e w' ⟨rfl, rfl⟩))
    go_ret
    exact ⟨rfl, HB.out⟩
  cases b3
  · go_enter Try.func80, Try.ntmps80
    go_wp2_with (first
      | (go_at_call 85; (with_reducible refine (K _ _).mono ?_); rintro e w' ⟨rfl, rfl⟩)
      | (go_at_call 87; (with_reducible refine C1.mono ?_); rintro e w' ⟨rfl, rfl⟩)
      | (go_at_call 87; (with_reducible refine C2.mono ?_); rintro e w' ⟨rfl, rfl⟩)
      | (go_at_call 87; (with_reducible refine C3.mono ?_); rintro e w' ⟨rfl, rfl⟩))
    go_ret
    exact ⟨rfl, HB.out⟩
  cases b4
  · go_enter Try.func80, Try.ntmps80
    go_wp2_with (first
      | (go_at_call 85; (with_reducible refine (K _ _).mono ?_); rintro e w' ⟨rfl, rfl⟩)
      | (go_at_call 87; (with_reducible refine C1.mono ?_); rintro e w' ⟨rfl, rfl⟩)
      | (go_at_call 87; (with_reducible refine C2.mono ?_); rintro e w' ⟨rfl, rfl⟩)
      | (go_at_call 87; (with_reducible refine C3.mono ?_); rintro e w' ⟨rfl, rfl⟩)
      | (go_at_call 87; (with_reducible refine C4.mono ?_); rintro e w' ⟨rfl, rfl⟩))
    go_ret
    exact ⟨rfl, HB.out⟩
  go_enter Try.func80, Try.ntmps80
  go_wp2_with (first
    | (go_at_call 85; (with_reducible refine (K _ _).mono ?_); rintro e w' ⟨rfl, rfl⟩)
    | (go_at_call 87; (with_reducible refine C1.mono ?_); rintro e w' ⟨rfl, rfl⟩)
    | (go_at_call 87; (with_reducible refine C2.mono ?_); rintro e w' ⟨rfl, rfl⟩)
    | (go_at_call 87; (with_reducible refine C3.mono ?_); rintro e w' ⟨rfl, rfl⟩)
    | (go_at_call 87; (with_reducible refine C4.mono ?_); rintro e w' ⟨rfl, rfl⟩))
  go_ret
  exact ⟨rfl, HB.out⟩
end Go.Proofs.Ytkigeakaedkjpaa
