/-
  Lists of numbers that are answered in new memory; the walk of the document's Same.
-/
import Derived.Test.YtaohimmmhpmgdaaDoorCheck
import Derived.BigQuiet
import Derived.IntWalk
import Derived.Test.YtaohimmmhpmgdaaDoorOwn
namespace Go.Proofs.YtaohimmmhpmgdaaDoor
open Go.RowKit

theorem At.of {w v : World} {c : Cf} (h : Below (w.heap.size + 1) (w.alloc (.cells (cfc c) 29)) v) : At w c v := h

def vi (l : List Int) : List Value := l.map fun n => .int .i64 n
theorem vi_len (l : List Int) : (vi l).length = l.length := by simp [vi]
theorem vi_snoc (l : List Int) (n : Int) : vi l ++ [.int .i64 n] = vi (l ++ [n]) := by simp [vi]
theorem vi_at {l : List Int} {k : Nat} (h : k < l.length) : (vi l)[k]? = some (.int .i64 (l.getD k 0)) := by simp [vi, h]

/-- A list of numbers is answered, in new memory. -/
def Row (w : World) (l : List Int) (e : Ending) (w' : World) : Prop := ∃ v, e = .returned v ∧ Own 3 w' w.heap.size v (vi l) ∧ Below w.heap.size w w'
theorem Row.mk {w w' : World} {l : List Int} {v : Value} (h : Own 3 w' w.heap.size v (vi l)) (hb : Below w.heap.size w w') : Row w l (.returned v) w' := ⟨v, rfl, h, hb⟩

theorem Tryd.info3 : (Tryd.prog.info? 3).map (fun i => (i.zero, i.size, i.bytes)) = some (some (.int .i64 0), 1, 8) := by kernel_rfl

set_option maxRecDepth 100000 in
theorem same_any (l : List Int) (a b : Option Addr) (x y : Nat) (w : World) (hl : l.length ≤ 1000) (ha : Rd w a (vi l)) (hb : Rd w b (vi l)) :
    Calls Tryd.prog 21 #[.slice a l.length x, .slice b l.length y] w fun e w' => e = .returned (.bool true) ∧ ∃ n, w' = w.drewN n := by
  obtain ⟨n, hn⟩ : ∃ n, l.length = n := ⟨_, rfl⟩
  have HN : Hid (l.length = n) := hn
  rw [hn] at hl ⊢
  clear hn
  have HA : Hid (Rd w a (vi l)) := ha
  have HB : Hid (Rd w b (vi l)) := hb
  clear ha hb
  go_enter Tryd.func21, Tryd.ntmps21
  go_wp2_with fail
  go_loopw [5] (fun i wr => ∃ k m : Nat, k ≤ n ∧ i = .int .i64 k ∧ wr = w.drewN m) (fun i _ => n - (RowKit.intOf i).toNat)
  case atStart => exact ⟨0, 0, Nat.zero_le _, rfl, rfl⟩
  case round =>
    obtain ⟨k, m, hk, rfl, rfl⟩ := hrel
    by_cases hlt : k < n
    · have hltz : (k : Int) < n := by omega
      have hk0 : (0 : Int) ≤ k := by omega
      have ht : ((k : Int)).toNat = k := by omega
      have hv := vi_at (l := l) (k := k) (by rw [HN.out]; exact hlt)
      obtain ⟨g, e1, hg, c1⟩ := HA.out k _ hv
      obtain ⟨g', e2, hg', c2⟩ := HB.out k _ hv
      clear hv hg hg'
      generalize l.getD k 0 = z at *
      subst e1
      subst e2
      go_wp2_with fail
      go_quiet (fail)
      go_wp2
      go_roundw
      case rel => exact ⟨k + 1, _, by omega, by go_num, rfl⟩
      case measure => simp [RowKit.intOf]; omega
    · have hltz : ¬ (k : Int) < n := by omega
      go_wp2
      go_ret
      exact ⟨rfl, _, rfl⟩
end Go.Proofs.YtaohimmmhpmgdaaDoor
