/-
  Words of a list, taken one by one: plain mathematics; the walk of a Take of nil.
-/
import Derived.Test.YtockjijhckkicaaJPlain
import Derived.Test.YtockjijhckkicaaJTk
namespace Go.Proofs.Ytockjijhckkicaa
open Go.RowKit

section
variable (T : TakeFn) (L : List Nat)
/-- What has begun, and the packets, behind the first k words. -/
def sj (k : Nat) : JS := run T zjs (L.take k)
def kp (k : Nat) : List Pk := pcks T zjs (L.take k)
variable {T L}
theorem sj_zero : sj T L 0 = zjs := rfl
theorem kp_zero : kp T L 0 = [] := rfl
theorem sj_step {k W : Nat} (h : L[k]? = some W) : sj T L (k + 1) = (T (sj T L k) W).1 ∧ kp T L (k + 1) = kp T L k ++ (if (T (sj T L k) W).2.2.1 = true then [(T (sj T L k) W).2.1] else []) := by
  unfold sj kp
  rw [take_one h, run_app, pcks_app, run_one, pcks_one]
  exact ⟨rfl, rfl⟩
theorem sj_all : sj T L L.length = run T zjs L ∧ kp T L L.length = pcks T zjs L := by
  unfold sj kp
  rw [List.take_length]
  exact ⟨rfl, rfl⟩
theorem split_at {k W : Nat} (h : L[k]? = some W) : L = L.take k ++ ([W] ++ L.drop (k + 1)) := by
  have hk := (List.getElem?_eq_some_iff.mp h).1
  have e := (List.getElem?_eq_some_iff.mp h).2
  calc L = L.take k ++ L.drop k := (List.take_append_drop k L).symm
    _ = _ := by rw [List.drop_eq_getElem_cons hk, e]; rfl
theorem ok_at (h : okR T zjs L) {k W : Nat} (hk : L[k]? = some W) : (T (sj T L k) W).2.2.2 = 0 := by
  rw [split_at hk, okR_app, okR_app, okR_one] at h
  exact h.2.1
theorem ok_take (h : okR T zjs L) (k : Nat) : okR T zjs (L.take k) := by
  rw [← List.take_append_drop k L, okR_app] at h
  exact h.1
theorem kp_small : ∀ k, (kp T L k).length ≤ k := by
  intro k
  induction k with
  | zero => exact Nat.le_refl _
  | succ k ih =>
    cases h : L[k]? with
    | none =>
      have e : L.take (k + 1) = L.take k := by rw [List.take_add_one, h]; simp
      unfold kp at ih ⊢
      rw [e]
      omega
    | some W =>
      rw [(sj_step h).2, List.length_append]
      split
      · simp only [List.length_singleton]; omega
      · simp only [List.length_nil]; omega
/-- Where a word tells its bytes. -/
def Small6 (T : TakeFn) : Prop := ∀ j W, (T j W).1.x.size ≤ j.x.size + 6
theorem sj_x (hT : Small6 T) : ∀ k, (sj T L k).x.size ≤ 6 * k := by
  intro k
  induction k with
  | zero => exact Nat.le_refl _
  | succ k ih =>
    cases h : L[k]? with
    | none =>
      have e : L.take (k + 1) = L.take k := by rw [List.take_add_one, h]; simp
      unfold sj at ih ⊢
      rw [e]
      omega
    | some W =>
      rw [(sj_step h).1]
      have := hT (sj T L k) W
      omega
end
theorem takeF_six (j : JS) (f : Fl) (e : Int) (h : e = 0 → f.x.size ≤ 6) : (takeF j f e).1.x.size ≤ j.x.size + 6 := by
  unfold takeF
  by_cases he : ¬ e = 0
  · rw [if_pos he]
    exact Nat.le_add_right _ _
  rw [if_neg he]
  have h6 := h (by omega)
  by_cases h1 : decide (f.k = 1) = j.b
  · rw [if_pos h1]
    exact Nat.le_add_right _ _
  rw [if_neg h1]
  by_cases h2 : f.k = 1
  · rw [if_pos h2]
    exact Nat.zero_le _
  rw [if_neg h2]
  by_cases h3 : f.k = 3
  · rw [if_pos h3]
    by_cases h4 : ¬ ((j.x ++ f.x).size : Int) = j.n
    · rw [if_pos h4]
      exact Nat.zero_le _
    · rw [if_neg h4]
      exact Nat.zero_le _
  · rw [if_neg h3]
    by_cases h4 : j.n < ((j.x ++ f.x).size : Int)
    · rw [if_pos h4]
      exact Nat.le_add_right _ _
    · rw [if_neg h4]
      show (j.x ++ f.x).size ≤ _
      rw [ByteArray.size_append]
      omega
theorem takeR_six : Small6 takeR := fun j W => by
  unfold takeR
  refine takeF_six j _ _ fun h => ?_
  obtain ⟨_, hr⟩ := readR_ok h
  rcases right_forms hr with ⟨_, _, _, _, _, _, _, _, _, hx⟩ | ⟨_, _, _, _, _, _, _, h3⟩
  · rw [hx]; decide
  · exact h3

theorem take_nil (W : Nat) (w : World) : Calls Try.prog 11 #[.pointer none, .int .u64 (W : Int)] w fun e w' => e = .returned (.tuple #[pkv zpk, .bool false, .int .i64 1]) ∧ Below w.heap.size w w' := by
  have A1 : Hid (Bk (w.alloc (.cells #[.int .i64 0, .int .i64 0, .int .i64 0, .string ⟨#[]⟩] 33)) w.heap.size #[.int .i64 0, .int .i64 0, .int .i64 0, .string ⟨#[]⟩] 33) := Bk.new _ _ _
  have A2 : Hid (Below w.heap.size w (w.alloc (.cells #[.int .i64 0, .int .i64 0, .int .i64 0, .string ⟨#[]⟩] 33))) := (Below.refl _ _).alloc (Nat.le_refl _) _
  go_enter Try.func11, Try.ntmps11
  go_upto_region 1 with fail
  generalize w.alloc (.cells #[.int .i64 0, .int .i64 0, .int .i64 0, .string ⟨#[]⟩] 33) = v at *
  have r_0 := A1.out.cell 0
  have r_1 := A1.out.cell 1
  have r_2 := A1.out.cell 2
  have r_3 := A1.out.cell 3
  have f_0 := A1.out.free 0
  have f_1 := A1.out.free 1
  have f_2 := A1.out.free 2
  have f_3 := A1.out.free 3
  simp only [List.getElem?_toArray, List.getElem?_cons_zero, List.getElem?_cons_succ] at r_0 r_1 r_2 r_3
  go_wp2
  have Y := fourp_at (x0 := .int .i64 0) (x1 := .int .i64 0) (x2 := .int .i64 0) (x3 := .string ⟨#[]⟩) A1.out
  have Y0 := Y.cell 0
  have Y1 := Y.cell 1
  have Y2 := Y.cell 2
  have Y3 := Y.cell 3
  simp only [List.getElem?_toArray, List.getElem?_cons_zero, List.getElem?_cons_succ] at Y0 Y1 Y2 Y3
  clear Y
  refine bodyPost_ret (v := .tuple #[.agg #[.int .i64 0, .int .i64 0, .int .i64 0, .string ⟨#[]⟩], .bool false, .int .i64 1]) (by simp [results, Try.results11, go_sem, Y0, Y1, Y2, Y3]; try rfl) rfl ⟨rfl, below_four A2.out (Nat.le_refl _) _ _ _ _⟩
end Go.Proofs.Ytockjijhckkicaa
