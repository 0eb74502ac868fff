/-
  The walk of FairNil.
-/
import Derived.Test.YtaeoglfpcbehdaaFLives
namespace Go.Proofs.Ytaeoglfpcbehdaa
open Go.RowKit

set_option maxRecDepth 100000 in
set_option maxHeartbeats 8000000 in
theorem nil_law (n : Nat) (a : Option Addr) (c : Nat) (w : World) (hn : n ≤ c) (hm : c ≤ maxLen) : Calls Try.prog 6 #[.slice a n c] w fun e w' => e = .returned (.bool true) ∧ Below w.heap.size w w' := by
  have LV := lives_any w
  have OC := fun m v => of_nil a m c v
  have SC := fun f v => see_nil f v
  have NC := fun f v => next_nil f v
  have PC := fun v => places_nil v
  have LC := fun v => last_nil v
  unfold maxLen at hm
  have f0 : (0 : Int) ≤ (n : Int) := by omega
  have f4 : (n : Int) ≤ (c : Int) := by omega
  by_cases h20 : n ≤ 20
  · have f1 : ¬ (20 : Int) < (n : Int) := by omega
    have f2 : (n : Int) ≤ 20 := by omega
    go_enter Try.func6, Try.ntmps6
    go_wp2_with fail
    go_at_call 9
    with_reducible refine LV.mono ?_
    rintro e w1 ⟨rfl, hb1⟩
    have HB1 : Hid (Below w.heap.size w w1) := hb1
    clear LV hb1
    go_wp2_with (go_at_call 18; (with_reducible refine (OC _ _).mono ?_); rintro e w2 ⟨rfl, hb2⟩; have HB2 : Hid (Below w.heap.size w w2) := HB1.out.trans (hb2.mono HB1.out.size); clear hb2)
    go_wp2_with (first
      | (go_at_call 13; (with_reducible refine (SC _ _).mono ?_); rintro e w' ⟨rfl, rfl⟩)
      | (go_at_call 19; (with_reducible refine (NC _ _).mono ?_); rintro e w' ⟨rfl, rfl⟩)
      | (go_at_call 17; (with_reducible refine (PC _).mono ?_); rintro e w' ⟨rfl, rfl⟩)
      | (go_at_call 16; (with_reducible refine (LC _).mono ?_); rintro e w' ⟨rfl, rfl⟩))
    go_ret
    exact ⟨rfl, HB2.out⟩
  · have f1 : (20 : Int) < (n : Int) := by omega
    have f2 : ¬ (n : Int) ≤ 20 := by omega
    have f3 : (20 : Int) ≤ (c : Int) := by omega
    go_enter Try.func6, Try.ntmps6
    go_wp2_with fail
    go_at_call 9
    with_reducible refine LV.mono ?_
    rintro e w1 ⟨rfl, hb1⟩
    have HB1 : Hid (Below w.heap.size w w1) := hb1
    clear LV hb1
    go_wp2_with (go_at_call 18; (with_reducible refine (OC _ _).mono ?_); rintro e w2 ⟨rfl, hb2⟩; have HB2 : Hid (Below w.heap.size w w2) := HB1.out.trans (hb2.mono HB1.out.size); clear hb2)
    go_wp2_with (first
      | (go_at_call 13; (with_reducible refine (SC _ _).mono ?_); rintro e w' ⟨rfl, rfl⟩)
      | (go_at_call 19; (with_reducible refine (NC _ _).mono ?_); rintro e w' ⟨rfl, rfl⟩)
      | (go_at_call 17; (with_reducible refine (PC _).mono ?_); rintro e w' ⟨rfl, rfl⟩)
      | (go_at_call 16; (with_reducible refine (LC _).mono ?_); rintro e w' ⟨rfl, rfl⟩))
    go_ret
    exact ⟨rfl, HB2.out⟩
end Go.Proofs.Ytaeoglfpcbehdaa
