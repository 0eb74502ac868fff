/-
  The walk of the law on a ring that isn't there.
-/
import Derived.Test.YtfphelhgfjdjoaaNil
namespace Go.Proofs.Ytfphelhgfjdjoaa
open Go.RowKit

/-- A block of cells that lies below is as it was. -/
theorem cells_below {w w' : World} {B b : Nat} (h : Below B w w') (hb : b < B) (j : Nat) {x : Value} (hx : w.cell? ⟨b, j, none⟩ = some x) : w'.cell? ⟨b, j, none⟩ = some x :=
  (h.cell (p := ⟨b, j, none⟩) hb).trans hx

set_option maxHeartbeats 2000000 in
theorem ringNil_any (w : World) (k v : Int) (a : Option Addr) (n cap : Nat) (l : List Int) (hn : n = l.length) (hlc : n ≤ cap) (hcm : cap ≤ maxLen) (hr : Rd w a l (fun _ => True)) :
    Calls Try.prog 7 #[.agg #[.int .i64 k, .int .i64 v, .slice a n cap]] w fun e w' => e = .returned (.bool true) ∧ Below w.heap.size w w' := by
  have b0 : Below w.heap.size w (w.alloc (.cells #[.int .i64 k, .int .i64 v, .slice a n cap] 35)) := (Below.refl _ _).alloc (Nat.le_refl _) _
  have V := lives_any (w.alloc (.cells #[.int .i64 k, .int .i64 v, .slice a n cap] 35))
  have hR := hr.alloc (.cells #[.int .i64 k, .int .i64 v, .slice a n cap] 35)
  have c0 : ∀ j, (w.alloc (.cells #[.int .i64 k, .int .i64 v, .slice a n cap] 35)).cell? ⟨w.heap.size, j, none⟩ = #[.int .i64 k, .int .i64 v, .slice a n cap][j]? := fun j =>
    World.cell?_alloc_at _ _ _ _ rfl
  rw [show (w.alloc (.cells #[.int .i64 k, .int .i64 v, .slice a n cap] 35)).heap.size = w.heap.size + 1 by simp] at V
  have B0 : Hid (Below w.heap.size w (w.alloc (.cells #[.int .i64 k, .int .i64 v, .slice a n cap] 35))) := b0
  have HR : Hid (Rd (w.alloc (.cells #[.int .i64 k, .int .i64 v, .slice a n cap] 35)) a l (fun _ => True)) := hR
  have C0 : Hid (∀ j, (w.alloc (.cells #[.int .i64 k, .int .i64 v, .slice a n cap] 35)).cell? ⟨w.heap.size, j, none⟩ = #[.int .i64 k, .int .i64 v, .slice a n cap][j]?) := c0
  have HN : Hid (n = l.length) := hn
  have HW : Hid (∀ g, g < w.heap.size + 1 → g < w.heap.size + 1) := fun _ h => h
  clear b0 c0 hR hr hn
  by_cases h5 : 5 < k % 8
  · go_enter Try.func7, Try.ntmps7
    go_wp2_with fail
    go_at_call 10
    refine V.mono ?_
    rintro e w1 ⟨rfl, hb1⟩
    have z1 : w.heap.size + 1 ≤ w1.heap.size := by have := hb1.size; simpa using this
    have d0 : w1.cell? ⟨w.heap.size, 0, none⟩ = some (.int .i64 k) := cells_below hb1 (by omega) 0 (C0.out 0)
    have d1 : w1.cell? ⟨w.heap.size, 1, none⟩ = some (.int .i64 v) := cells_below hb1 (by omega) 1 (C0.out 1)
    have d2 : w1.cell? ⟨w.heap.size, 2, none⟩ = some (.slice a n cap) := cells_below hb1 (by omega) 2 (C0.out 2)
    have hR1 := HR.out.keep (w' := w1) (by simpa using z1) (fun g _ hg => hb1.block g (by simpa using hg))
    have S := nil_step' w1 k v a n cap l HN.out hlc hcm hR1 0 (by rw [if_pos (by omega)])
    clear V hR1
    go_wp2_with fail
    go_at_call 14
    refine S.mono ?_
    rintro e w2 ⟨rfl, hb2⟩
    have hb12 : Below (w.heap.size + 1) w1 w2 := hb2.mono z1
    have d0' : w2.cell? ⟨w.heap.size, 0, none⟩ = some (.int .i64 k) := cells_below hb12 (by omega) 0 d0
    have d1' : w2.cell? ⟨w.heap.size, 1, none⟩ = some (.int .i64 v) := cells_below hb12 (by omega) 1 d1
    have d2' : w2.cell? ⟨w.heap.size, 2, none⟩ = some (.slice a n cap) := cells_below hb12 (by omega) 2 d2
    have K := kind_any k v (.slice a n cap) w2
    have Z : w.heap.size ≤ w2.heap.size := by have := hb2.size; omega
    have HF : Hid (Below w.heap.size w w2) := (B0.out.trans (hb1.mono (by omega))).trans (hb2.mono (by omega))
    clear S d0 d1 d2 hb1 hb2 hb12
    go_wp2_with (first
      | (go_at_call 16; refine (nil_counts _).mono ?_; rintro e w3 ⟨rfl, rfl⟩)
      | (go_at_call 22; refine K.mono ?_; rintro e w3 ⟨rfl, rfl⟩)
      | (go_at_call 18; refine (nil_len _).mono ?_; rintro e w3 ⟨rfl, rfl⟩)
      | (go_at_call 19; refine (nil_room _).mono ?_; rintro e w3 ⟨rfl, rfl⟩)
      | (go_at_call 21; refine (nil_all _).mono ?_; rintro e w3 ⟨rfl, rfl⟩))
    go_ret
    exact ⟨rfl, HF.out.alloc Z _⟩
  · go_enter Try.func7, Try.ntmps7
    go_wp2_with fail
    go_at_call 10
    refine V.mono ?_
    rintro e w1 ⟨rfl, hb1⟩
    have z1 : w.heap.size + 1 ≤ w1.heap.size := by have := hb1.size; simpa using this
    have d0 : w1.cell? ⟨w.heap.size, 0, none⟩ = some (.int .i64 k) := cells_below hb1 (by omega) 0 (C0.out 0)
    have d1 : w1.cell? ⟨w.heap.size, 1, none⟩ = some (.int .i64 v) := cells_below hb1 (by omega) 1 (C0.out 1)
    have d2 : w1.cell? ⟨w.heap.size, 2, none⟩ = some (.slice a n cap) := cells_below hb1 (by omega) 2 (C0.out 2)
    have hR1 := HR.out.keep (w' := w1) (by simpa using z1) (fun g _ hg => hb1.block g (by simpa using hg))
    have S := nil_step' w1 k v a n cap l HN.out hlc hcm hR1 1 (by rw [if_neg (by omega)])
    clear V hR1
    go_wp2_with fail
    go_at_call 14
    refine S.mono ?_
    rintro e w2 ⟨rfl, hb2⟩
    have hb12 : Below (w.heap.size + 1) w1 w2 := hb2.mono z1
    have HF : Hid (Below w.heap.size w w2) := (B0.out.trans (hb1.mono (by omega))).trans (hb2.mono (by omega))
    clear S d0 d1 d2 hb1 hb2 hb12
    go_wp2_with (first
      | (go_at_call 16; refine (nil_counts _).mono ?_; rintro e w3 ⟨rfl, rfl⟩)
      | (go_at_call 18; refine (nil_len _).mono ?_; rintro e w3 ⟨rfl, rfl⟩)
      | (go_at_call 19; refine (nil_room _).mono ?_; rintro e w3 ⟨rfl, rfl⟩)
      | (go_at_call 21; refine (nil_all _).mono ?_; rintro e w3 ⟨rfl, rfl⟩))
    go_ret
    exact ⟨rfl, HF.out⟩
end Go.Proofs.Ytfphelhgfjdjoaa
