/-
  A config as plain data; the walks of config.within, of what it calls, and of config.Check.
-/
import Derived.Test.YtaohimmmhpmgdaaDoorProg
import Derived.WalkKit
import Derived.BigQuiet
import Derived.BigCall
import Derived.Deep.QuietTactic
import Derived.Deep.LoopGhost
import Derived.WalkSpells
import Derived.WalkLawsBesides
import Derived.KernelRfl
import Derived.ProofKit
import Derived.Laws.StructEq
import Derived.Outline
namespace Go.Proofs.YtaohimmmhpmgdaaDoor
open Go.RowKit

theorem ret_int {k : IntKind} {a b : Int} (h : a = b) : Ending.returned (.int k a) = .returned (.int k b) := by rw [h]
theorem ret_bool {a b : Bool} (h : a = b) : Ending.returned (.bool a) = .returned (.bool b) := by rw [h]

structure Cf where
  w : Int
  h : Int
  l : Int
  d : Int
  r : Int
  i : Int
  b : Int
  we : Bool
  ca : Bool

abbrev cfc (c : Cf) : Array Value := #[.int .i64 c.w, .int .i64 c.h, .int .i64 c.l, .int .i64 c.d, .int .i64 c.r, .int .i64 c.i, .int .i64 c.b, .bool c.we, .bool c.ca]
abbrev cfv (c : Cf) : Value := .agg (cfc c)

/-- A number is out of its bounds. -/
def outB (lo hi x : Int) : Bool := decide (x < lo) || decide (hi < x)

theorem pred_any (x lo hi : Int) (p q : Addr) (w : World) (hp : w.cell? p = some (.int .i64 lo)) (hq : w.cell? q = some (.int .i64 hi)) :
    Calls Tryd.prog 48 #[.int .i64 x, .pointer (some p), .pointer (some q)] w fun e w' => e = .returned (.bool (outB lo hi x)) ∧ w = w' := by
  by_cases h1 : x < lo
  · have e : outB lo hi x = true := by unfold outB; simp [h1]
    rw [e]
    clear e
    go_enter Tryd.func48, Tryd.ntmps48
    go_wp2
    go_ret
    exact ⟨rfl, rfl⟩
  · by_cases h2 : hi < x
    · have e : outB lo hi x = true := by unfold outB; simp [h2]
      rw [e]
      clear e
      go_enter Tryd.func48, Tryd.ntmps48
      go_wp2
      go_ret
      exact ⟨rfl, rfl⟩
    · have e : outB lo hi x = false := by unfold outB; simp [h1, h2]
      rw [e]
      clear e
      go_enter Tryd.func48, Tryd.ntmps48
      go_wp2
      go_ret
      exact ⟨rfl, rfl⟩

/-- The place of the first number that is out, or one below 0. -/
def FirstOut (lo hi : Int) (zs : List Int) (w : World) (e : Ending) (w' : World) : Prop :=
  w = w' ∧ ∃ r : Int, e = .returned (.int .i64 r) ∧ decide (0 ≤ r) = zs.any (outB lo hi)

set_option maxHeartbeats 1000000 in
theorem index_any (lo hi : Int) (b : Nat) (zs : List Int) (c : Nat) (p q : Addr) (w : World) (hp : w.cell? p = some (.int .i64 lo)) (hq : w.cell? q = some (.int .i64 hi))
    (hz : zs.length ≤ 100) (hc : ∀ j, j < zs.length → w.cell? ⟨b, j, none⟩ = some (.int .i64 (zs.getD j 0))) :
    Calls Tryd.prog 50 #[.slice (some ⟨b, 0, none⟩) zs.length c, .func (.func 48) #[] #[.pointer (some p), .pointer (some q)]] w (FirstOut lo hi zs w) := by
  have K := fun x => pred_any x lo hi p q w hp hq
  clear hp hq
  have HC : Hid (∀ j, j < zs.length → w.cell? ⟨b, j, none⟩ = some (.int .i64 (zs.getD j 0))) := hc
  clear hc
  generalize hn : zs.length = n at *
  have HN : Hid (zs.length = n) := hn
  clear hn
  go_enter Tryd.func50, Tryd.ntmps50
  go_wp2
  go_loopg [5, 8] n (fun gg _ s8 wr => ∃ k : Nat, k ≤ n ∧ n - k ≤ gg ∧ s8 = .int .i64 k ∧ wr = w ∧ Aside (∀ j, j < k → outB lo hi (zs.getD j 0) = false))
  case atStart => exact ⟨0, Nat.zero_le _, by omega, rfl, rfl, fun j hj => absurd hj (Nat.not_lt_zero _)⟩
  case round =>
    obtain ⟨k, hk, hg, rfl, rfl, A⟩ := hrel
    by_cases hlt : k < n
    · have hltz : (k : Int) < (n : Int) := by omega
      have hcell := HC.out k hlt
      have hcall := K (zs.getD k 0)
      generalize hy : zs.getD k 0 = y at hcell hcall
      have B : Aside (zs.getD k 0 = y) := hy
      clear hy
      cases ho : outB lo hi y with
      | true =>
        rw [ho] at hcall
        have O : Aside (outB lo hi y = true) := ho
        clear ho
        go_wp2_with (go_at_call 48; refine (hcall).mono ?_; rintro e w' ⟨rfl, rfl⟩)
        go_ret
        refine ⟨rfl, _, rfl, ?_⟩
        rw [List.any_eq_true.mpr ⟨y, ?_, O.out⟩]
        · simp
        · have hl := HN.out
          have hb := B.out
          rw [← hb, List.getD_eq_getElem?_getD, List.getElem?_eq_getElem (by omega)]
          exact List.getElem_mem _
      | false =>
        rw [ho] at hcall
        have O : Aside (outB lo hi y = false) := ho
        clear ho
        go_wp2_with (go_at_call 48; refine (hcall).mono ?_; rintro e w' ⟨rfl, rfl⟩)
        go_roundg (n - (k + 1))
        case measure => omega
        case rel =>
          refine ⟨k + 1, by omega, by omega, by go_num, rfl, (show Aside _ from fun j hj => ?_)⟩
          by_cases e : j = k
          · subst e
            rw [B.out]; exact O.out
          · exact A.out j (by omega)
    · have hltz : ¬ (k : Int) < (n : Int) := by omega
      obtain rfl : k = n := by omega
      go_wp2
      go_ret
      refine ⟨rfl, _, rfl, ?_⟩
      rw [show zs.any (outB lo hi) = false from ?_]
      · simp
      · rw [List.any_eq_false]
        intro x hx
        obtain ⟨j, hj, rfl⟩ := List.getElem_of_mem hx
        have h := A.out j (by have := HN.out; omega)
        rw [List.getD_eq_getElem?_getD, List.getElem?_eq_getElem hj] at h
        simpa using h

theorem contains_any (lo hi : Int) (b : Nat) (zs : List Int) (c : Nat) (p q : Addr) (w : World) (hp : w.cell? p = some (.int .i64 lo)) (hq : w.cell? q = some (.int .i64 hi))
    (hz : zs.length ≤ 100) (hc : ∀ j, j < zs.length → w.cell? ⟨b, j, none⟩ = some (.int .i64 (zs.getD j 0))) :
    Calls Tryd.prog 49 #[.slice (some ⟨b, 0, none⟩) zs.length c, .func (.func 48) #[] #[.pointer (some p), .pointer (some q)]] w fun e w' => e = .returned (.bool (zs.any (outB lo hi))) ∧ w = w' := by
  have K := index_any lo hi b zs c p q w hp hq hz hc
  clear hp hq hc
  unfold FirstOut at K
  generalize zs.any (outB lo hi) = t at *
  generalize zs.length = n at *
  go_enter Tryd.func49, Tryd.ntmps49
  go_wp2_with (go_at_call 50; refine K.mono ?_; rintro e w' ⟨rfl, r, rfl, hr⟩; have HR : Hid (decide (0 ≤ r) = t) := hr; clear hr)
  go_ret
  exact ⟨ret_bool HR.out, rfl⟩

theorem within_any (lo hi : Int) (b : Nat) (zs : List Int) (n c : Nat) (w : World) (hz : zs.length ≤ 100) (hn : zs.length = n) (hb : b < w.heap.size) (hc : ∀ j, j < zs.length → w.cell? ⟨b, j, none⟩ = some (.int .i64 (zs.getD j 0))) :
    Calls Tryd.prog 46 #[.int .i64 lo, .int .i64 hi, .slice (some ⟨b, 0, none⟩) n c] w fun e w' => e = .returned (.bool (!(zs.any (outB lo hi)))) ∧ Below w.heap.size w w' := by
  subst hn
  have b0 : Hid (Below w.heap.size w ((w.alloc (.cells #[.int .i64 lo] 3)).alloc (.cells #[.int .i64 hi] 3))) := ((Below.refl _ _).alloc (Nat.le_refl _) _).alloc (by simp) _
  have K := contains_any lo hi b zs c ⟨w.heap.size, 0, none⟩ ⟨w.heap.size + 1, 0, none⟩ ((w.alloc (.cells #[.int .i64 lo] 3)).alloc (.cells #[.int .i64 hi] 3)) (by go_simp) (by go_simp) hz
    (fun j hj => by rw [b0.out.cell (p := ⟨b, j, none⟩) hb]; exact hc j hj)
  clear hc
  generalize zs.any (outB lo hi) = t at *
  generalize zs.length = n at *
  go_enter Tryd.func46, Tryd.ntmps46
  go_wp2_with (go_at_call 49; (with_reducible refine K.mono ?_); rintro e w' ⟨rfl, rfl⟩)
  go_ret
  exact ⟨rfl, b0.out⟩

/-- One number, two, three. -/
theorem within1 (lo hi x : Int) (b c : Nat) (w : World) (hb : b < w.heap.size) (h0 : w.cell? ⟨b, 0, none⟩ = some (.int .i64 x)) :
    Calls Tryd.prog 46 #[.int .i64 lo, .int .i64 hi, .slice (some ⟨b, 0, none⟩) 1 c] w fun e w' => e = .returned (.bool (!(outB lo hi x))) ∧ Below w.heap.size w w' := by
  have h := within_any lo hi b [x] 1 c w (by simp) rfl hb (fun j hj => by
    have : j < 1 := hj
    obtain rfl : j = 0 := by omega
    exact h0)
  simpa using h
theorem within2 (lo hi x y : Int) (b c : Nat) (w : World) (hb : b < w.heap.size) (h0 : w.cell? ⟨b, 0, none⟩ = some (.int .i64 x)) (h1 : w.cell? ⟨b, 1, none⟩ = some (.int .i64 y)) :
    Calls Tryd.prog 46 #[.int .i64 lo, .int .i64 hi, .slice (some ⟨b, 0, none⟩) 2 c] w fun e w' => e = .returned (.bool (!(outB lo hi x || outB lo hi y))) ∧ Below w.heap.size w w' := by
  have h := within_any lo hi b [x, y] 2 c w (by simp) rfl hb (fun j hj => by
    have : j < 2 := hj
    rcases (by omega : j = 0 ∨ j = 1) with rfl | rfl
    · exact h0
    · exact h1)
  simpa using h
theorem within3 (lo hi x y z : Int) (b c : Nat) (w : World) (hb : b < w.heap.size) (h0 : w.cell? ⟨b, 0, none⟩ = some (.int .i64 x)) (h1 : w.cell? ⟨b, 1, none⟩ = some (.int .i64 y)) (h2 : w.cell? ⟨b, 2, none⟩ = some (.int .i64 z)) :
    Calls Tryd.prog 46 #[.int .i64 lo, .int .i64 hi, .slice (some ⟨b, 0, none⟩) 3 c] w fun e w' => e = .returned (.bool (!(outB lo hi x || outB lo hi y || outB lo hi z))) ∧ Below w.heap.size w w' := by
  have h := within_any lo hi b [x, y, z] 3 c w (by simp) rfl hb (fun j hj => by
    have : j < 3 := hj
    rcases (by omega : j = 0 ∨ j = 1 ∨ j = 2) with rfl | rfl | rfl
    · exact h0
    · exact h1
    · exact h2)
  simpa [Bool.or_assoc] using h
end Go.Proofs.YtaohimmmhpmgdaaDoor
