/-
  The walk of the document's Same, of rows however long.
-/
import Derived.Test.YtcebfkkpclnmoaaDoorVi
namespace Go.Proofs.YtcebfkkpclnmoaaDoor
open Go.RowKit

set_option maxRecDepth 100000 in
theorem same_big (l : List Int) (a b : Option Addr) (x y : Nat) (w : World) (hl : l.length ≤ 1000000) (ha : Rd w a (vi l)) (hb : Rd w b (vi l)) :
    Calls Tryd.prog 21 #[.slice a l.length x, .slice b l.length y] w fun e w' => e = .returned (.bool true) ∧ ∃ n, w' = w.drewN n := by
  obtain ⟨n, hn⟩ : ∃ n, l.length = n := ⟨_, rfl⟩
  have HN : Hid (l.length = n) := hn
  rw [hn] at hl ⊢
  clear hn
  have HA : Hid (Rd w a (vi l)) := ha
  have HB : Hid (Rd w b (vi l)) := hb
  clear ha hb
  go_enter Tryd.func21, Tryd.ntmps21
  go_wp2_with fail
  go_loopw [5] (fun i wr => ∃ k m : Nat, k ≤ n ∧ i = .int .i64 k ∧ wr = w.drewN m) (fun i _ => n - (RowKit.intOf i).toNat)
  case atStart => exact ⟨0, 0, Nat.zero_le _, rfl, rfl⟩
  case round =>
    obtain ⟨k, m, hk, rfl, rfl⟩ := hrel
    by_cases hlt : k < n
    · have hltz : (k : Int) < n := by omega
      have hk0 : (0 : Int) ≤ k := by omega
      have ht : ((k : Int)).toNat = k := by omega
      have hv := vi_at (l := l) (k := k) (by rw [HN.out]; exact hlt)
      obtain ⟨g, e1, hg, c1⟩ := HA.out k _ hv
      obtain ⟨g', e2, hg', c2⟩ := HB.out k _ hv
      clear hv hg hg'
      generalize l.getD k 0 = z at *
      subst e1
      subst e2
      go_wp2_with fail
      go_quiet (fail)
      go_wp2
      go_roundw
      case rel => exact ⟨k + 1, _, by omega, by go_num, rfl⟩
      case measure => simp [RowKit.intOf]; omega
    · have hltz : ¬ (k : Int) < n := by omega
      go_wp2
      go_ret
      exact ⟨rfl, _, rfl⟩
end Go.Proofs.YtcebfkkpclnmoaaDoor
