/-
  The program's link, its calls by contract: all of them.
-/
import Derived.Test.YtihfekcdghmkhaaLNew
import Derived.Test.YtihfekcdghmkhaaLIdle
import Derived.Test.YtihfekcdghmkhaaLMut2
import Derived.Test.YtihfekcdghmkhaaLMut3
namespace Go.Proofs.Ytihfekcdghmkhaa
open Go.RowKit
open RC (Cl cc cv zc)
theorem nil_send (k x : Int) (w : World) : Calls Try.prog 30 #[.pointer none, cv ⟨k, x⟩] w fun e w' => e = .returned (.int .i64 1) ∧ Below w.heap.size w w' := by
  have B0 : Hid (Below w.heap.size w (w.alloc (.cells #[.int .i64 k, .int .u64 x] 35))) := (Below.refl _ _).alloc (Nat.le_refl _) _
  have N0 : Hid (Bk (w.alloc (.cells #[.int .i64 k, .int .u64 x] 35)) w.heap.size #[.int .i64 k, .int .u64 x] 35) := Bk.new _ _ _
  have RR := fun v => ref_nil k v
  simp only [cv]
  go_enter Try.func30, Try.ntmps30
  go_upto_region 1 with fail
  generalize w.alloc (.cells #[.int .i64 k, .int .u64 x] 35) = v at *
  have d0 := N0.out.cell 0
  simp only [List.getElem?_toArray, List.getElem?_cons_zero] at d0
  go_wp2_with (go_at_call 40; with_reducible refine (RR _).mono ?_; rintro e w1 ⟨rfl, m, rfl⟩)
  go_ret
  exact ⟨rfl, dn B0.out m⟩
end Go.Proofs.Ytihfekcdghmkhaa
