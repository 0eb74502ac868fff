/-
  A step on a ring that isn't there; the law's walk.
-/
import Derived.Test.YtfphelhgfjdjoaaLives
namespace Go.Proofs.Ytfphelhgfjdjoaa
open Go.RowKit

set_option maxHeartbeats 2000000 in
theorem nil_step (w : World) (k v : Int) (a : Option Addr) (cap : Nat) (l : List Int) (hlc : l.length ≤ cap) (hcm : cap ≤ maxLen) (hr : Rd w a l (fun _ => True)) :
    Calls Try.prog 14 #[.pointer none, .agg #[.int .i64 k, .int .i64 v, .slice a l.length cap]] w
      fun e w' => e = .returned (.tuple #[.int .i64 0, .int .i64 (if 5 < k % 8 then 0 else 1), .slice none 0 0]) ∧ Below w.heap.size w w' := by
  unfold maxLen at hcm
  have K := kind_any k v (.slice a l.length cap) (w.alloc (.cells #[.int .i64 k, .int .i64 v, .slice a l.length cap] 35))
  have hA := (hr.alloc (.cells #[.int .i64 k, .int .i64 v, .slice a l.length cap] 35)).alloc (.cells #[.int .i64 k, .int .i64 v, .slice a l.length cap] 35)
  have k8 : k % 8 = 0 ∨ k % 8 = 1 ∨ k % 8 = 2 ∨ k % 8 = 3 ∨ k % 8 = 4 ∨ k % 8 = 5 ∨ k % 8 = 6 ∨ k % 8 = 7 := by omega
  have hB : ∀ o1 o2 : Obj, Below w.heap.size w ((w.alloc o1).alloc o2) := fun o1 o2 => ((Below.refl _ _).alloc (Nat.le_refl _) o1).alloc (by simp) o2
  have HB : Hid (∀ o1 o2 : Obj, Below w.heap.size w ((w.alloc o1).alloc o2)) := hB
  clear hr hB
  rcases k8 with k8 | k8 | k8 | k8 | k8 | k8 | k8 | k8
  · rw [k8] at K ⊢
    rw [if_neg (by omega)]
    obtain ⟨n, hn⟩ : ∃ n, n = l.length := ⟨_, rfl⟩
    rw [← hn] at K hlc ⊢
    clear hn k8 hA
    go_enter Try.func14, Try.ntmps14
    go_wp2_with (first
      | (go_at_call 22; refine K.mono ?_; rintro e w' ⟨rfl, rfl⟩)
      | (go_at_call 23; refine (nil_push _ _).mono ?_; rintro e w' ⟨rfl, rfl⟩))
    go_ret3
    exact ⟨rfl, HB.out _ _⟩
  · rw [k8] at K ⊢
    rw [if_neg (by omega)]
    obtain ⟨n, hn⟩ : ∃ n, n = l.length := ⟨_, rfl⟩
    rw [← hn] at K hlc ⊢
    clear hn k8 hA
    go_enter Try.func14, Try.ntmps14
    go_wp2_with (first
      | (go_at_call 22; refine K.mono ?_; rintro e w' ⟨rfl, rfl⟩)
      | (go_at_call 24; refine (nil_pop _).mono ?_; rintro e w' ⟨rfl, rfl⟩))
    go_ret3
    exact ⟨rfl, HB.out _ _⟩
  · rw [k8] at K ⊢
    rw [if_neg (by omega)]
    obtain ⟨n, hn⟩ : ∃ n, n = l.length := ⟨_, rfl⟩
    rw [← hn] at K hlc ⊢
    clear hn k8 hA
    go_enter Try.func14, Try.ntmps14
    go_wp2_with (first
      | (go_at_call 22; refine K.mono ?_; rintro e w' ⟨rfl, rfl⟩)
      | (go_at_call 27; refine (nil_lay _ _).mono ?_; rintro e w' ⟨rfl, rfl⟩))
    go_ret3
    exact ⟨rfl, HB.out _ _⟩
  · rw [k8] at K ⊢
    rw [if_neg (by omega)]
    obtain ⟨n, hn⟩ : ∃ n, n = l.length := ⟨_, rfl⟩
    rw [← hn] at K hlc ⊢
    clear hn k8 hA
    go_enter Try.func14, Try.ntmps14
    go_wp2_with (first
      | (go_at_call 22; refine K.mono ?_; rintro e w' ⟨rfl, rfl⟩)
      | (go_at_call 28; refine (nil_publish _).mono ?_; rintro e w' ⟨rfl, rfl⟩))
    go_ret3
    exact ⟨rfl, HB.out _ _⟩
  · rw [k8] at K ⊢
    rw [if_neg (by omega)]
    obtain ⟨n, hn⟩ : ∃ n, n = l.length := ⟨_, rfl⟩
    rw [← hn] at K hlc ⊢
    clear hn k8 hA
    go_enter Try.func14, Try.ntmps14
    go_wp2_with (first
      | (go_at_call 22; refine K.mono ?_; rintro e w' ⟨rfl, rfl⟩)
      | (go_at_call 26; refine (nil_free _).mono ?_; rintro e w' ⟨rfl, rfl⟩))
    go_ret3
    exact ⟨rfl, HB.out _ _⟩
  · rw [k8] at K ⊢
    rw [if_neg (by omega)]
    obtain ⟨n, hn⟩ : ∃ n, n = l.length := ⟨_, rfl⟩
    rw [← hn] at K hlc ⊢
    clear hn k8 hA
    go_enter Try.func14, Try.ntmps14
    go_wp2_with (first
      | (go_at_call 22; refine K.mono ?_; rintro e w' ⟨rfl, rfl⟩)
      | (go_at_call 25; refine (nil_peek _).mono ?_; rintro e w' ⟨rfl, rfl⟩))
    go_ret3
    exact ⟨rfl, HB.out _ _⟩
  · rw [k8] at K ⊢
    rw [if_pos (by omega)]
    have C := fun n9 h9 => nil_pushAll _ a cap (l.take 20) n9 h9 (by simp; omega) (hA.take 20)
    have hb20 : l.length < 20 ∨ 20 < l.length ∨ l.length = 20 := by omega
    rcases hb20 with hb20 | hb20 | hb20
    · have C' := C l.length (by simp; omega)
      obtain ⟨n, hn⟩ : ∃ n, n = l.length := ⟨_, rfl⟩
      rw [← hn] at K hlc C' hb20 ⊢
      clear hn k8 hA C
      go_enter Try.func14, Try.ntmps14
      go_wp2_with (first
        | (go_at_call 22; refine K.mono ?_; rintro e w' ⟨rfl, rfl⟩)
        | (go_at_call 29; refine C'.mono ?_; rintro e w' ⟨rfl, rfl⟩))
      go_ret3
      exact ⟨rfl, HB.out _ _⟩
    all_goals
      have C' := C 20 (by simp; omega)
      obtain ⟨n, hn⟩ : ∃ n, n = l.length := ⟨_, rfl⟩
      rw [← hn] at K hlc C' hb20 ⊢
      clear hn k8 hA C
      try subst hb20
      go_enter Try.func14, Try.ntmps14
      go_wp2_with (first
        | (go_at_call 22; refine K.mono ?_; rintro e w' ⟨rfl, rfl⟩)
        | (go_at_call 29; refine C'.mono ?_; rintro e w' ⟨rfl, rfl⟩))
      go_ret3
      exact ⟨rfl, HB.out _ _⟩
  · rw [k8] at K ⊢
    rw [if_pos (by omega)]
    obtain ⟨n, hn⟩ : ∃ n, n = l.length := ⟨_, rfl⟩
    rw [← hn] at K hlc ⊢
    clear hn k8 hA
    go_enter Try.func14, Try.ntmps14
    go_wp2_with (first
      | (go_at_call 22; refine K.mono ?_; rintro e w' ⟨rfl, rfl⟩)
      | (go_at_call 30; refine (nil_popSome _ _).mono ?_; rintro e w' ⟨rfl, rfl⟩))
    go_ret3
    exact ⟨rfl, HB.out _ _⟩

theorem nil_step' (w : World) (k v : Int) (a : Option Addr) (n cap : Nat) (l : List Int) (hn : n = l.length) (hlc : n ≤ cap) (hcm : cap ≤ maxLen) (hr : Rd w a l (fun _ => True)) (er : Int) (he : (if 5 < k % 8 then 0 else 1) = er) :
    Calls Try.prog 14 #[.pointer none, .agg #[.int .i64 k, .int .i64 v, .slice a n cap]] w
      fun e w' => e = .returned (.tuple #[.int .i64 0, .int .i64 er, .slice none 0 0]) ∧ Below w.heap.size w w' := by
  subst hn he
  exact nil_step w k v a cap l hlc hcm hr

end Go.Proofs.Ytfphelhgfjdjoaa
