/-
  The walks of bit, one, Kind, headSizes and dataSizes.
-/
import Derived.Test.YtkigeakaedkjpaaRright
import Derived.Laws.OwnMore
namespace Go.Proofs.Ytkigeakaedkjpaa
open Go.RowKit

def bitN (b : Bool) : Nat := if b then 1 else 0
theorem bitN_lt (b : Bool) : bitN b < 2 := by cases b <;> decide

theorem bit1_any (b : Bool) (w : World) : Calls Try.prog 83 #[.bool b] w fun e w' => e = .returned (.int .u32 (bitN b)) ∧ w = w' := by
  cases b
  all_goals
    go_enter Try.func83, Try.ntmps83
    go_wp2
    go_ret
    exact ⟨rfl, rfl⟩

theorem one_any (b : Bool) (w : World) : Calls Try.prog 57 #[.bool b] w fun e w' => e = .returned (.int .u32 (bitN b)) ∧ w = w' := by
  cases b
  all_goals
    go_enter Try.func57, Try.ntmps57
    go_wp2
    go_ret
    exact ⟨rfl, rfl⟩

theorem kind_any (W : Nat) (hW : W < 18446744073709551616) (w : World) : Calls Try.prog 51 #[.int .u64 W] w fun e w' => e = .returned (.int .i64 ((W % 4 : Nat) : Int)) ∧ ∃ n, w' = w.drewN n := by
  have G := fun w => get_any W 0 2 hW w
  have e1 : getV W 0 2 = W % 4 := by
    unfold getV
    rw [if_pos (by decide)]
    simp
  have e2 : getE 0 2 = 0 := by decide
  rw [e1, e2] at G
  have hlt : W % 4 < 4 := Nat.mod_lt _ (by decide)
  generalize W % 4 = K at *
  clear e1 e2
  go_enter Try.func51, Try.ntmps51
  go_wp2_with (go_at_call 65; (with_reducible refine (G _).mono ?_); rintro e w' ⟨rfl, n2, rfl⟩)
  go_ret
  exact ⟨rfl, _, rfl⟩

def hs : List Int := [2, 12, 12, 16, 7, 1, 1]
def ds (n : Nat) : List Int := 2 :: 3 :: List.replicate n 8

theorem headSizes_any (w : World) : Calls Try.prog 78 #[] w fun e w' => e = .returned (.slice (some ⟨w.heap.size, 0, none⟩) 7 7) ∧ w' = w.alloc (.cells #[.int .i64 2, .int .i64 12, .int .i64 12, .int .i64 16, .int .i64 7, .int .i64 1, .int .i64 1] 3) := by
  go_enter Try.func78, Try.ntmps78
  go_wp2
  go_ret
  exact ⟨rfl, rfl⟩

theorem Try.info3 : (Try.prog.info? 3).map (fun i => (i.zero, i.size, i.bytes)) = some (some (.int .i64 0), 1, 8) := by kernel_rfl

/-- The slice value v is the call's own (blocks from B on) and holds the values l. -/
def Own (e : TypeId) (w : World) (B : Nat) (v : Value) (l : List Value) : Prop := w.ownsRow B e 1 v l.length l

theorem Own.rd {t : TypeId} {w : World} {B : Nat} {v : Value} {l : List Value} (h : Own t w B v l) : ∃ a cap, v = .slice a l.length cap ∧ l.length ≤ cap ∧ cap ≤ maxLen ∧ Rd w a l := by
  obtain ⟨h1, h2⟩ := h
  rcases h2 with ⟨rfl, h2⟩ | ⟨g, cap, cur, rfl, hg, hh, hc1, hc2, hc3, hc4⟩
  · refine ⟨none, 0, by rw [h2], by omega, by simp [maxLen], fun j v hj => ?_⟩
    have : l = [] := List.eq_nil_of_length_eq_zero h2
    subst this
    cases hj
  · refine ⟨_, _, rfl, hc1, hc2, fun j v hj => ⟨g, 0, rfl, lt_of_heap hh, ?_⟩⟩
    have hlt : j < l.length * 1 := by
      have := (List.getElem?_eq_some_iff.mp hj).1
      rw [← h1]; exact this
    rw [Nat.zero_add, cell_of hh]
    have : cur[j]? = (List.take (l.length * 1) cur.toList)[j]? := by rw [List.getElem?_take_of_lt hlt]; simp
    rw [this, hc4]; exact hj

theorem Own.snoc {t : TypeId} {w : World} {B : Nat} {v x : Value} {l : List Value} (h : w.ownsRow B t 1 v (l.length + 1) (l ++ [x])) : Own t w B v (l ++ [x]) := by
  unfold Own
  simpa using h

theorem rep_snoc (n : Nat) (x : Int) : List.replicate n x ++ [x] = List.replicate (n + 1) x := by
  rw [List.replicate_succ']

def DPost (w : World) (n : Nat) (e : Ending) (w' : World) : Prop := ∃ v, e = .returned v ∧ Own 3 w' w.heap.size v (vi (ds n)) ∧ Below w.heap.size w w'

set_option maxHeartbeats 800000 in
theorem dataSizes_any (n : Nat) (hn : n ≤ 7) (w : World) : Calls Try.prog 79 #[.int .i64 n] w (DPost w n) := by
  obtain ⟨i0, hi, hz0, hz1, hz2⟩ := info_parts Try.info3
  obtain ⟨B, hB⟩ : ∃ B, B = w.heap.size := ⟨_, rfl⟩
  have HB : Hid (B = w.heap.size) := hB
  have o0 : Own 3 (w.alloc (.cells #[.int .i64 2, .int .i64 3] 3)) w.heap.size (.slice (some ⟨w.heap.size, 0, none⟩) 2 2) (vi (ds 0)) :=
    World.ownsRow_lit w #[.int .i64 2, .int .i64 3] 2 (Nat.le_refl _) (by simp [maxLen]) rfl
  have b0 : Below w.heap.size w (w.alloc (.cells #[.int .i64 2, .int .i64 3] 3)) := (Below.refl _ _).alloc (Nat.le_refl _) _
  have O0 : Hid (Own 3 (w.alloc (.cells #[.int .i64 2, .int .i64 3] 3)) w.heap.size (.slice (some ⟨w.heap.size, 0, none⟩) 2 2) (vi (ds 0))) := o0
  have B0 : Hid (Below w.heap.size w (w.alloc (.cells #[.int .i64 2, .int .i64 3] 3))) := b0
  clear o0 b0 hB
  go_enter Try.func79, Try.ntmps79
  go_wp2
  go_loopw [3, 6] (fun v i wr => ∃ (k : Nat), k ≤ n ∧ i = .int .i64 k ∧ Own 3 wr B v (vi (ds k)) ∧ Below B w wr) (fun _ i _ => n - (intOf i).toNat)
  case atStart => exact ⟨0, Nat.zero_le _, rfl, by rw [HB.out]; exact O0.out, by rw [HB.out]; exact B0.out⟩
  case round =>
    obtain ⟨k, hk, rfl, hown, hbel⟩ := hrel
    by_cases hlt : k < n
    · have hsz : B ≤ wr.heap.size := by have := hbel.size; have := HB.out; omega
      have hl : (vi (ds k)).length = k + 2 := by simp [vi, ds]
      have he : vi (ds k) ++ [.int .i64 8] = vi (ds (k + 1)) := by
        unfold vi ds
        simp only [List.map_cons, List.cons_append, List.map_replicate]
        rw [show ([Value.int .i64 8] : List Value) = [Value.int .i64 8] from rfl, List.replicate_succ']
      have HL : Hid ((vi (ds k)).length = k + 2) := hl
      have HE : Hid (vi (ds k) ++ [.int .i64 8] = vi (ds (k + 1))) := he
      clear hl he
      generalize vi (ds k) = L at *
      go_wp2_with (at_builtin; refine wpList_append_own _ rfl _ _ 83 rfl B 3 i0 (.int .i64 0) 1 8 Try.underlying83 hi hz0 hz1 hz2 rfl (by decide) _ _ _ rfl (World.ownsRow.alloc hown _) ⟨wr.heap.size, 0, none⟩ 1 1 [.int .i64 8] rfl rfl ?c1 ?c2 ?c3 ?c4 ?c5 ?_)
      case c1 =>
        intro j u hj
        match j, hj with
        | 0, hj => simp at hj; subst hj; exact (World.cell?_alloc_at _ _ _ _ rfl).trans rfl
      case c2 => intro u hu; simp at hu; subst hu; rfl
      case c3 => have := HL.out; unfold maxLen; omega
      case c4 => have := HL.out; omega
      case c5 => simp; omega
      · intro v' w1 hown' hgrow _
        have hown2 : Own 3 w1 B v' (vi (ds (k + 1))) := by rw [← HE.out]; exact Own.snoc hown'
        have hbel2 : Below B w w1 := Below.grown (hbel.alloc (by simpa using hsz) _) hgrow (by simp; omega) (fun q hq => (World.ownsRow.lt hown q hq).1)
        clear hown' hgrow hown hbel
        go_wp2
        go_roundw
        case rel => exact ⟨k + 1, by omega, by go_num, hown2, hbel2⟩
        case measure => simp [intOf]; omega
    · obtain rfl : k = n := by omega
      go_wp2
      go_ret
      exact ⟨_, rfl, by rw [← HB.out]; exact hown, by rw [← HB.out]; exact hbel⟩
end Go.Proofs.Ytkigeakaedkjpaa
