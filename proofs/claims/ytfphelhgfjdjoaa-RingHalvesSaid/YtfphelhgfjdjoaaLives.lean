/-
  lives; a ring that isn't there.
-/
import Derived.Test.YtfphelhgfjdjoaaDo
namespace Go.Proofs.Ytfphelhgfjdjoaa
open Go.RowKit

def live0 : RingSt := ⟨2, 4294967295, 4294967295, false, 0, []⟩
def live1 : RingSt := (pushAll live0 [7, 8, 9]).2
theorem live_n : (pushAll live0 [7, 8, 9]).1 = 2 := by decide
theorem live_i : live1.i = 1 := by decide
theorem live_o : live1.o = 4294967295 := by decide
theorem live_v : peekV live1 = 7 := by decide
theorem live_e : peekE live1 = 0 := by decide
theorem live_l : (freeS live1).xs.length = 1 := by decide

set_option maxHeartbeats 800000 in
theorem lives_any (w : World) : Calls Try.prog 10 #[] w fun e w' => e = .returned (.bool true) ∧ Below w.heap.size w w' := by
  obtain ⟨B, hB⟩ : ∃ B, B = w.heap.size := ⟨_, rfl⟩
  have N := new_any 2 4294967295 w (by omega)
  rw [← hB] at N ⊢
  have HB : Hid (B = w.heap.size) := hB
  clear hB
  go_enter Try.func10, Try.ntmps10
  go_wp2_with (go_at_call 11; refine N.mono ?_; rintro e w1 ⟨rfl, hR, hF⟩)
  have hlt := hR.lt
  have C := ring_pushAll' (hR.alloc (.cells #[.int .i64 7, .int .i64 8, .int .i64 9] 3)) (some ⟨w1.heap.size, 0, none⟩) 3 3 [7, 8, 9] rfl (by simp) (by
    intro j hj
    refine ⟨w1.heap.size, 0, rfl, by omega, by simp, ?_⟩
    rw [World.cell?_alloc_at _ _ _ _ rfl]
    simp at hj
    rcases (by omega : j = 0 ∨ j = 1 ∨ j = 2) with rfl | rfl | rfl <;> rfl)
  rw [show (pushAll ⟨2, 4294967295, 4294967295, false, 0, []⟩ [7, 8, 9]).1 = 2 from live_n, show (pushAll ⟨2, 4294967295, 4294967295, false, 0, []⟩ [7, 8, 9]).2 = live1 from rfl] at C
  have HS : Hid (w1.heap.size < w1.heap.size + 1) := Nat.lt_succ_self _
  clear hR hlt
  refine C.mono ?_
  rintro e w2 ⟨rfl, pb2, m2, hR2, hF2, hP2⟩
  have K1 := ring_counts hR2
  rw [live_i, live_o] at K1
  have K2 := fun n => ring_pop (hR2.drewN n)
  rw [live_v, live_e] at K2
  clear C hR2
  go_wp2_with (first
    | (go_at_call 16; refine K1.mono ?_; rintro e w3 ⟨rfl, n3, rfl⟩))
  go_at_call 24
  refine (K2 _).mono ?_
  rintro e w4 ⟨rfl, hR4, hF4⟩
  have K3 := ring_len hR4
  rw [live_l] at K3
  clear K1 K2 hR4
  go_wp2_with (go_at_call 18; refine K3.mono ?_; rintro e w3 ⟨rfl, n3, rfl⟩)
  go_ret
  refine ⟨rfl, ?_⟩
  have b1 : Below B w (w1.alloc (.cells #[.int .i64 7, .int .i64 8, .int .i64 9] 3)) := hF.alloc (by have := hF.size; have := HB.out; omega) _
  have b2 : Below B _ w2 := hF2.below (Nat.le_refl _) (Nat.le_refl _) (by have := b1.size; have := HB.out; omega)
  have hF4' : Fr B pb2 w2 w4 := ⟨hF4.os, hF4.tape, hF4.output, hF4.size, hF4.block⟩
  have b3 : Below B w2 w4 := hF4'.below (Nat.le_refl _) (by have := b1.size; have := HB.out; omega) (by have := b1.size; have := b2.size; have := HB.out; omega)
  exact below_drewN ((b1.trans b2).trans b3) _

theorem nil_len (w : World) : Calls Try.prog 18 #[.pointer none] w fun e w' => e = .returned (.int .i64 0) ∧ w = w' := by
  go_enter Try.func18, Try.ntmps18
  go_wp2
  go_ret
  exact ⟨rfl, rfl⟩
theorem nil_room (w : World) : Calls Try.prog 19 #[.pointer none] w fun e w' => e = .returned (.int .i64 0) ∧ w = w' := by
  go_enter Try.func19, Try.ntmps19
  go_wp2
  go_ret
  exact ⟨rfl, rfl⟩
theorem nil_counts (w : World) : Calls Try.prog 16 #[.pointer none] w fun e w' => e = .returned (.tuple #[.int .u32 0, .int .u32 0]) ∧ w = w' := by
  go_enter Try.func16, Try.ntmps16
  go_wp2
  go_ret2
  exact ⟨rfl, rfl⟩
theorem nil_all (w : World) : Calls Try.prog 21 #[.pointer none] w fun e w' => e = .returned (.slice none 0 0) ∧ w = w' := by
  go_enter Try.func21, Try.ntmps21
  go_wp2_with (go_at_call 18; refine (nil_len _).mono ?_; rintro e w1 ⟨rfl, rfl⟩)
  refine wp_loop_rounds 1 ?_
  rw [rounds_succ]
  go_wp2
  go_ret
  exact ⟨rfl, rfl⟩
theorem nil_lay (w : World) (v : Int) : Calls Try.prog 27 #[.pointer none, .int .i64 v] w fun e w' => e = .returned (.int .i64 1) ∧ w = w' := by
  go_enter Try.func27, Try.ntmps27
  go_wp2
  go_ret
  exact ⟨rfl, rfl⟩
theorem nil_publish (w : World) : Calls Try.prog 28 #[.pointer none] w fun e w' => e = .returned (.int .i64 1) ∧ w = w' := by
  go_enter Try.func28, Try.ntmps28
  go_wp2
  go_ret
  exact ⟨rfl, rfl⟩
theorem nil_free (w : World) : Calls Try.prog 26 #[.pointer none] w fun e w' => e = .returned (.int .i64 1) ∧ w = w' := by
  go_enter Try.func26, Try.ntmps26
  go_wp2
  go_ret
  exact ⟨rfl, rfl⟩
theorem nil_peek (w : World) : Calls Try.prog 25 #[.pointer none] w fun e w' => e = .returned (.tuple #[.int .i64 0, .int .i64 1]) ∧ w = w' := by
  go_enter Try.func25, Try.ntmps25
  go_wp2
  go_ret2
  exact ⟨rfl, rfl⟩
theorem nil_pop (w : World) : Calls Try.prog 24 #[.pointer none] w fun e w' => e = .returned (.tuple #[.int .i64 0, .int .i64 1]) ∧ w = w' := by
  go_enter Try.func24, Try.ntmps24
  go_wp2_with (go_at_call 25; refine (nil_peek _).mono ?_; rintro e w1 ⟨rfl, rfl⟩)
  go_ret2
  exact ⟨rfl, rfl⟩
theorem nil_push (w : World) (v : Int) : Calls Try.prog 23 #[.pointer none, .int .i64 v] w fun e w' => e = .returned (.int .i64 1) ∧ w = w' := by
  go_enter Try.func23, Try.ntmps23
  go_wp2_with (go_at_call 27; refine (nil_lay _ _).mono ?_; rintro e w1 ⟨rfl, rfl⟩)
  go_ret
  exact ⟨rfl, rfl⟩

theorem nil_pushAll (w : World) (a : Option Addr) (cap : Nat) (l : List Int) (n : Nat) (hn : n = l.length) (hl : l.length ≤ 1000000) (hr : Rd w a l (fun _ => True)) :
    Calls Try.prog 29 #[.pointer none, .slice a n cap] w fun e w' => e = .returned (.int .i64 0) ∧ w = w' := by
  cases l with
  | nil =>
    subst hn
    clear hr
    go_enter Try.func29, Try.ntmps29
    go_wp2
    refine wp_loop_rounds 1 ?_
    rw [rounds_succ]
    go_wp2
    go_ret
    exact ⟨rfl, rfl⟩
  | cons x r =>
    obtain ⟨g, off, rfl, _, _, hc⟩ := hr 0 (by simp)
    have h0 : 0 < n := by rw [hn]; simp
    have h1 : (0 : Int) < n := by omega
    have hc0 : w.cell? ⟨g, off, none⟩ = some (.int .i64 x) := hc
    have hl2 : n ≤ 1000000 := by omega
    clear hn hl hc hr
    go_enter Try.func29, Try.ntmps29
    go_wp2
    refine wp_loop_rounds 1 ?_
    rw [rounds_succ]
    go_wp2_with (go_at_call 23; refine (nil_push _ _).mono ?_; rintro e w1 ⟨rfl, rfl⟩)
    go_ret
    exact ⟨rfl, rfl⟩

theorem nil_popSome (w : World) (v : Int) : Calls Try.prog 30 #[.pointer none, .int .i64 v] w fun e w' => e = .returned (.slice none 0 0) ∧ w = w' := by
  rcases (by omega : v < 0 ∨ 0 < v ∨ v = 0) with hc | hc | rfl
  all_goals
    go_enter Try.func30, Try.ntmps30
    go_wp2_with (go_at_call 18; refine (nil_len _).mono ?_; rintro e w1 ⟨rfl, rfl⟩)
    refine wp_loop_rounds 1 ?_
    rw [rounds_succ]
    go_wp2
    go_ret
    exact ⟨rfl, rfl⟩

end Go.Proofs.Ytfphelhgfjdjoaa
