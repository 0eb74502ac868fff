/-
  The walk of JoinNil.
-/
import Derived.Test.YtockjijhckkicaaLives
namespace Go.Proofs.Ytockjijhckkicaa
open Go.RowKit

set_option maxRecDepth 100000 in
set_option maxHeartbeats 8000000 in
theorem nil_law (W : Nat) (w : World) :
    Calls Try.prog 6 #[.int .u64 (W : Int)] w fun e w' => e = .returned (.bool true) ∧ Below w.heap.size w w' := by
  have AC : ∀ w', Calls Try.prog 15 #[.slice none 0 0] w' fun e w'' => ∃ v, e = .returned (.tuple #[v, .int .i64 0]) ∧ OwnK 33 4 w'' w'.heap.size v 0 [] ∧ Below w'.heap.size w' w'' := fun w' => all_any [] trivial (by decide) (by simp) none 0 w' (fun j v hj => by simp [vw] at hj)
  have TC := fun w' => take_nil W w'
  have LV := lives_any w
  simp only [pkv, pkc] at TC
  go_enter Try.func6, Try.ntmps6
  go_wp2_with fail
  go_at_call 8
  with_reducible refine LV.mono ?_
  rintro e w1 ⟨rfl, hb1⟩
  have HB1 : Hid (Below w.heap.size w w1) := hb1
  clear LV hb1
  go_upto_region 5 with (go_at_call 11; (with_reducible refine (TC _).mono ?_); rintro e w2 ⟨rfl, hb2⟩)
  have HB2 : Hid (Below w.heap.size w (w2.alloc (.cells #[.int .i64 0, .int .i64 0, .int .i64 0, .string ByteArray.empty] 33))) := (HB1.out.trans (hb2.mono HB1.out.size)).alloc (Nat.le_trans HB1.out.size hb2.size) _
  have P2 : Hid (Bk (w2.alloc (.cells #[.int .i64 0, .int .i64 0, .int .i64 0, .string ByteArray.empty] 33)) w2.heap.size #[.int .i64 0, .int .i64 0, .int .i64 0, .string ByteArray.empty] 33) := Bk.new _ _ _
  clear HB1 hb2 TC
  generalize w2.alloc (.cells #[.int .i64 0, .int .i64 0, .int .i64 0, .string ByteArray.empty] 33) = v2 at *
  generalize w2.heap.size = c at *
  go_upto_region 6 with (go_at_call 15; (with_reducible refine (AC _).mono ?_); rintro e w3 ⟨v3, rfl, o3, hb3⟩)
  have HB3 : Hid (Below w.heap.size w w3) := HB2.out.trans (hb3.mono HB2.out.size)
  have P3 : Hid (Bk w3 c #[.int .i64 0, .int .i64 0, .int .i64 0, .string ByteArray.empty] 33) := P2.out.next hb3
  obtain ⟨a3, cap3, rfl, hc3, hm3, rd3⟩ := o3.rd (by decide)
  have d0 := P3.out.cell 0
  have d1 := P3.out.cell 1
  have d2 := P3.out.cell 2
  have d3 := P3.out.cell 3
  simp only [List.getElem?_toArray, List.getElem?_cons_zero, List.getElem?_cons_succ] at d0 d1 d2 d3
  clear HB2 P2 hb3 o3 rd3 P3 AC
  go_wp2_with (first
    | (go_at_call 13; (with_reducible refine (begun_nil _).mono ?_); rintro e w4 ⟨rfl, rfl⟩)
    | (go_at_call 14; (with_reducible refine (has_nil _).mono ?_); rintro e w5 ⟨rfl, rfl⟩))
  go_ret
  exact ⟨rfl, HB3.out⟩
end Go.Proofs.Ytockjijhckkicaa
