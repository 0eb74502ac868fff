/-
  A config as plain data; the walks of config.within, of what it calls, and of config.Check.
  The walks of config.Check, Nodes, Class, and of the document's own.
  The walk of the document's Check, and of both Nodes and both Class.
  The walks of both Nodes; what a config that may be is.
  Nodes of a mesh, their places, who is beside whom, how far two are apart, and all channels, as plain mathematics.
  The walks of isBelow, Is, Place, At, and of the document's Is, X, Y, At.
  The walks of the document's Is, X, Y, At.
  Slices of the call's own that read as a list; append of one value as one law, over whatever program.
  A config's block, and an array's behind it, through a law's walk: no function in it.
  The walk of the document's Small.
  Small as a struct written out; the walk of reticuleref05.Node; what walks of grid ask of a law's world.
  The walks of both Class.
-/
import Derived.Test.YtoejpngdkcnnhaaGreatProg
import Derived.WalkKit
import Derived.BigQuiet
import Derived.BigCall
import Derived.Deep.QuietTactic
import Derived.Deep.LoopGhost
import Derived.WalkSpells
import Derived.WalkLawsBesides
import Derived.KernelRfl
import Derived.ProofKit
import Derived.Laws.StructEq
import Derived.Outline
import Derived.OwnWalk
import Derived.WalkSmall

namespace Go.Proofs.YtoejpngdkcnnhaaGreat.G
open Go.RowKit

theorem ret_int {k : IntKind} {a b : Int} (h : a = b) : Ending.returned (.int k a) = .returned (.int k b) := by rw [h]
theorem ret_bool {a b : Bool} (h : a = b) : Ending.returned (.bool a) = .returned (.bool b) := by rw [h]

structure Cf where
  w : Int
  h : Int
  l : Int
  d : Int
  r : Int
  i : Int
  b : Int
  we : Bool
  ca : Bool

abbrev cfc (c : Cf) : Array Value := #[.int .i64 c.w, .int .i64 c.h, .int .i64 c.l, .int .i64 c.d, .int .i64 c.r, .int .i64 c.i, .int .i64 c.b, .bool c.we, .bool c.ca]
abbrev cfv (c : Cf) : Value := .agg (cfc c)

/-- A number is out of its bounds. -/
def outB (lo hi x : Int) : Bool := decide (x < lo) || decide (hi < x)

theorem pred_any (x lo hi : Int) (p q : Addr) (w : World) (hp : w.cell? p = some (.int .i64 lo)) (hq : w.cell? q = some (.int .i64 hi)) :
    Calls Tryz.prog 91 #[.int .i64 x, .pointer (some p), .pointer (some q)] w fun e w' => e = .returned (.bool (outB lo hi x)) ∧ w = w' := by
  by_cases h1 : x < lo
  · have e : outB lo hi x = true := by unfold outB; simp [h1]
    rw [e]
    clear e
    go_enter Tryz.func91, Tryz.ntmps91
    go_wp2
    go_ret
    exact ⟨rfl, rfl⟩
  · by_cases h2 : hi < x
    · have e : outB lo hi x = true := by unfold outB; simp [h2]
      rw [e]
      clear e
      go_enter Tryz.func91, Tryz.ntmps91
      go_wp2
      go_ret
      exact ⟨rfl, rfl⟩
    · have e : outB lo hi x = false := by unfold outB; simp [h1, h2]
      rw [e]
      clear e
      go_enter Tryz.func91, Tryz.ntmps91
      go_wp2
      go_ret
      exact ⟨rfl, rfl⟩

/-- The place of the first number that is out, or one below 0. -/
def FirstOut (lo hi : Int) (zs : List Int) (w : World) (e : Ending) (w' : World) : Prop :=
  w = w' ∧ ∃ r : Int, e = .returned (.int .i64 r) ∧ decide (0 ≤ r) = zs.any (outB lo hi)

set_option maxHeartbeats 1000000 in
theorem index_any (lo hi : Int) (b : Nat) (zs : List Int) (c : Nat) (p q : Addr) (w : World) (hp : w.cell? p = some (.int .i64 lo)) (hq : w.cell? q = some (.int .i64 hi))
    (hz : zs.length ≤ 100) (hc : ∀ j, j < zs.length → w.cell? ⟨b, j, none⟩ = some (.int .i64 (zs.getD j 0))) :
    Calls Tryz.prog 102 #[.slice (some ⟨b, 0, none⟩) zs.length c, .func (.func 91) #[] #[.pointer (some p), .pointer (some q)]] w (FirstOut lo hi zs w) := by
  have K := fun x => pred_any x lo hi p q w hp hq
  clear hp hq
  have HC : Hid (∀ j, j < zs.length → w.cell? ⟨b, j, none⟩ = some (.int .i64 (zs.getD j 0))) := hc
  clear hc
  generalize hn : zs.length = n at *
  have HN : Hid (zs.length = n) := hn
  clear hn
  go_enter Tryz.func102, Tryz.ntmps102
  go_wp2
  go_loopg [5, 8] n (fun gg _ s8 wr => ∃ k : Nat, k ≤ n ∧ n - k ≤ gg ∧ s8 = .int .i64 k ∧ wr = w ∧ Aside (∀ j, j < k → outB lo hi (zs.getD j 0) = false))
  case atStart => exact ⟨0, Nat.zero_le _, by omega, rfl, rfl, fun j hj => absurd hj (Nat.not_lt_zero _)⟩
  case round =>
    obtain ⟨k, hk, hg, rfl, rfl, A⟩ := hrel
    by_cases hlt : k < n
    · have hltz : (k : Int) < (n : Int) := by omega
      have hcell := HC.out k hlt
      have hcall := K (zs.getD k 0)
      generalize hy : zs.getD k 0 = y at hcell hcall
      have B : Aside (zs.getD k 0 = y) := hy
      clear hy
      cases ho : outB lo hi y with
      | true =>
        rw [ho] at hcall
        have O : Aside (outB lo hi y = true) := ho
        clear ho
        go_wp2_with (go_at_call 91; refine (hcall).mono ?_; rintro e w' ⟨rfl, rfl⟩)
        go_ret
        refine ⟨rfl, _, rfl, ?_⟩
        rw [List.any_eq_true.mpr ⟨y, ?_, O.out⟩]
        · simp
        · have hl := HN.out
          have hb := B.out
          rw [← hb, List.getD_eq_getElem?_getD, List.getElem?_eq_getElem (by omega)]
          exact List.getElem_mem _
      | false =>
        rw [ho] at hcall
        have O : Aside (outB lo hi y = false) := ho
        clear ho
        go_wp2_with (go_at_call 91; refine (hcall).mono ?_; rintro e w' ⟨rfl, rfl⟩)
        go_roundg (n - (k + 1))
        case measure => omega
        case rel =>
          refine ⟨k + 1, by omega, by omega, by go_num, rfl, (show Aside _ from fun j hj => ?_)⟩
          by_cases e : j = k
          · subst e
            rw [B.out]; exact O.out
          · exact A.out j (by omega)
    · have hltz : ¬ (k : Int) < (n : Int) := by omega
      obtain rfl : k = n := by omega
      go_wp2
      go_ret
      refine ⟨rfl, _, rfl, ?_⟩
      rw [show zs.any (outB lo hi) = false from ?_]
      · simp
      · rw [List.any_eq_false]
        intro x hx
        obtain ⟨j, hj, rfl⟩ := List.getElem_of_mem hx
        have h := A.out j (by have := HN.out; omega)
        rw [List.getD_eq_getElem?_getD, List.getElem?_eq_getElem hj] at h
        simpa using h

theorem contains_any (lo hi : Int) (b : Nat) (zs : List Int) (c : Nat) (p q : Addr) (w : World) (hp : w.cell? p = some (.int .i64 lo)) (hq : w.cell? q = some (.int .i64 hi))
    (hz : zs.length ≤ 100) (hc : ∀ j, j < zs.length → w.cell? ⟨b, j, none⟩ = some (.int .i64 (zs.getD j 0))) :
    Calls Tryz.prog 92 #[.slice (some ⟨b, 0, none⟩) zs.length c, .func (.func 91) #[] #[.pointer (some p), .pointer (some q)]] w fun e w' => e = .returned (.bool (zs.any (outB lo hi))) ∧ w = w' := by
  have K := index_any lo hi b zs c p q w hp hq hz hc
  clear hp hq hc
  unfold FirstOut at K
  generalize zs.any (outB lo hi) = t at *
  generalize zs.length = n at *
  go_enter Tryz.func92, Tryz.ntmps92
  go_wp2_with (go_at_call 102; refine K.mono ?_; rintro e w' ⟨rfl, r, rfl, hr⟩; have HR : Hid (decide (0 ≤ r) = t) := hr; clear hr)
  go_ret
  exact ⟨ret_bool HR.out, rfl⟩

theorem within_any (lo hi : Int) (b : Nat) (zs : List Int) (n c : Nat) (w : World) (hz : zs.length ≤ 100) (hn : zs.length = n) (hb : b < w.heap.size) (hc : ∀ j, j < zs.length → w.cell? ⟨b, j, none⟩ = some (.int .i64 (zs.getD j 0))) :
    Calls Tryz.prog 70 #[.int .i64 lo, .int .i64 hi, .slice (some ⟨b, 0, none⟩) n c] w fun e w' => e = .returned (.bool (!(zs.any (outB lo hi)))) ∧ Below w.heap.size w w' := by
  subst hn
  have b0 : Hid (Below w.heap.size w ((w.alloc (.cells #[.int .i64 lo] 3)).alloc (.cells #[.int .i64 hi] 3))) := ((Below.refl _ _).alloc (Nat.le_refl _) _).alloc (by simp) _
  have K := contains_any lo hi b zs c ⟨w.heap.size, 0, none⟩ ⟨w.heap.size + 1, 0, none⟩ ((w.alloc (.cells #[.int .i64 lo] 3)).alloc (.cells #[.int .i64 hi] 3)) (by go_simp) (by go_simp) hz
    (fun j hj => by rw [b0.out.cell (p := ⟨b, j, none⟩) hb]; exact hc j hj)
  clear hc
  generalize zs.any (outB lo hi) = t at *
  generalize zs.length = n at *
  go_enter Tryz.func70, Tryz.ntmps70
  go_wp2_with (go_at_call 92; (with_reducible refine K.mono ?_); rintro e w' ⟨rfl, rfl⟩)
  go_ret
  exact ⟨rfl, b0.out⟩

/-- One number, two, three. -/
theorem within1 (lo hi x : Int) (b c : Nat) (w : World) (hb : b < w.heap.size) (h0 : w.cell? ⟨b, 0, none⟩ = some (.int .i64 x)) :
    Calls Tryz.prog 70 #[.int .i64 lo, .int .i64 hi, .slice (some ⟨b, 0, none⟩) 1 c] w fun e w' => e = .returned (.bool (!(outB lo hi x))) ∧ Below w.heap.size w w' := by
  have h := within_any lo hi b [x] 1 c w (by simp) rfl hb (fun j hj => by
    have : j < 1 := hj
    obtain rfl : j = 0 := by omega
    exact h0)
  simpa using h
theorem within2 (lo hi x y : Int) (b c : Nat) (w : World) (hb : b < w.heap.size) (h0 : w.cell? ⟨b, 0, none⟩ = some (.int .i64 x)) (h1 : w.cell? ⟨b, 1, none⟩ = some (.int .i64 y)) :
    Calls Tryz.prog 70 #[.int .i64 lo, .int .i64 hi, .slice (some ⟨b, 0, none⟩) 2 c] w fun e w' => e = .returned (.bool (!(outB lo hi x || outB lo hi y))) ∧ Below w.heap.size w w' := by
  have h := within_any lo hi b [x, y] 2 c w (by simp) rfl hb (fun j hj => by
    have : j < 2 := hj
    rcases (by omega : j = 0 ∨ j = 1) with rfl | rfl
    · exact h0
    · exact h1)
  simpa using h
theorem within3 (lo hi x y z : Int) (b c : Nat) (w : World) (hb : b < w.heap.size) (h0 : w.cell? ⟨b, 0, none⟩ = some (.int .i64 x)) (h1 : w.cell? ⟨b, 1, none⟩ = some (.int .i64 y)) (h2 : w.cell? ⟨b, 2, none⟩ = some (.int .i64 z)) :
    Calls Tryz.prog 70 #[.int .i64 lo, .int .i64 hi, .slice (some ⟨b, 0, none⟩) 3 c] w fun e w' => e = .returned (.bool (!(outB lo hi x || outB lo hi y || outB lo hi z))) ∧ Below w.heap.size w w' := by
  have h := within_any lo hi b [x, y, z] 3 c w (by simp) rfl hb (fun j hj => by
    have : j < 3 := hj
    rcases (by omega : j = 0 ∨ j = 1 ∨ j = 2) with rfl | rfl | rfl
    · exact h0
    · exact h1
    · exact h2)
  simpa [Bool.or_assoc] using h
end Go.Proofs.YtoejpngdkcnnhaaGreat.G

namespace Go.Proofs.YtoejpngdkcnnhaaGreat.G
open Go.RowKit

/-- Block number w.heap.size holds the config; what lay below it lies. -/
def At (w : World) (c : Cf) (v : World) : Prop := Below (w.heap.size + 1) (w.alloc (.cells (cfc c) 23)) v
theorem At.start (w : World) (c : Cf) : At w c (w.alloc (.cells (cfc c) 23)) := Below.refl _ _
theorem At.cell {w v : World} {c : Cf} (h : At w c v) (j : Nat) : v.cell? ⟨w.heap.size, j, none⟩ = (cfc c)[j]? := by
  rw [Below.cell h (p := ⟨w.heap.size, j, none⟩) (by simp), World.cell?_alloc_at _ _ _ _ rfl]
theorem At.size {w v : World} {c : Cf} (h : At w c v) : w.heap.size + 1 ≤ v.heap.size := by
  have := Below.size h
  simpa using this
theorem At.trans {w v v' : World} {c : Cf} (h : At w c v) (hb : Below v.heap.size v v') : At w c v' := Below.trans h (hb.mono h.size)
theorem At.alloc {w v : World} {c : Cf} (h : At w c v) (o : Obj) : At w c (v.alloc o) := Below.alloc h h.size o
theorem At.below {w v : World} {c : Cf} (h : At w c v) : Below w.heap.size w v :=
  ((Below.refl _ _).alloc (Nat.le_refl _) _).trans (Below.mono h (by omega))
/-- All nine. -/
theorem At.cells {w v : World} {c : Cf} (h : At w c v) :
    v.cell? ⟨w.heap.size, 0, none⟩ = some (.int .i64 c.w) ∧ v.cell? ⟨w.heap.size, 1, none⟩ = some (.int .i64 c.h) ∧ v.cell? ⟨w.heap.size, 2, none⟩ = some (.int .i64 c.l) ∧
    v.cell? ⟨w.heap.size, 3, none⟩ = some (.int .i64 c.d) ∧ v.cell? ⟨w.heap.size, 4, none⟩ = some (.int .i64 c.r) ∧ v.cell? ⟨w.heap.size, 5, none⟩ = some (.int .i64 c.i) ∧
    v.cell? ⟨w.heap.size, 6, none⟩ = some (.int .i64 c.b) ∧ v.cell? ⟨w.heap.size, 7, none⟩ = some (.bool c.we) ∧ v.cell? ⟨w.heap.size, 8, none⟩ = some (.bool c.ca) :=
  ⟨h.cell 0, h.cell 1, h.cell 2, h.cell 3, h.cell 4, h.cell 5, h.cell 6, h.cell 7, h.cell 8⟩

def t1 (c : Cf) : Bool := outB 1 64 c.w || outB 1 64 c.h
def t2 (c : Cf) : Bool := outB (if c.ca then 2 else 1) 8 c.l
def t3 (c : Cf) : Bool := outB 1 64 c.d || outB 1 64 c.r || outB 1 64 c.i
def t4 (c : Cf) : Bool := outB 1 16 c.b
/-- What Check tells. -/
def chk (c : Cf) : Int := if t1 c = true then 4 else if t2 c = true then 10 else if t3 c = true then 10 else if t4 c = true then 10 else 0

set_option maxHeartbeats 1000000 in
theorem check_any (c : Cf) (w : World) : Calls Tryz.prog 50 #[cfv c] w fun e w' => e = .returned (.int .i64 (chk c)) ∧ Below w.heap.size w w' := by
  have K1 := within2 1 64 c.w c.h
  have K2 := within1 (if c.ca then 2 else 1) 8 c.l
  have K3 := within3 1 64 c.d c.r c.i
  have K4 := within1 1 16 c.b
  unfold chk
  change ∀ b cc w, _ → _ → _ → Calls _ _ _ _ (fun e w' => e = .returned (.bool (!(t1 c))) ∧ _) at K1
  change ∀ b cc w, _ → _ → Calls _ _ _ _ (fun e w' => e = .returned (.bool (!(t2 c))) ∧ _) at K2
  change ∀ b cc w, _ → _ → _ → _ → Calls _ _ _ _ (fun e w' => e = .returned (.bool (!(t3 c))) ∧ _) at K3
  change ∀ b cc w, _ → _ → Calls _ _ _ _ (fun e w' => e = .returned (.bool (!(t4 c))) ∧ _) at K4
  generalize t1 c = T1 at *
  generalize t2 c = T2 at *
  generalize t3 c = T3 at *
  generalize t4 c = T4 at *
  have A0 : Hid (At w c (w.alloc (.cells (cfc c) 23))) := At.start w c
  have sz : Hid ((w.alloc (.cells (cfc c) 23)).heap.size = w.heap.size + 1) := by simp [Hid]
  obtain ⟨cw, ch, cl, cd, cr, ci, cb, we, ca⟩ := c
  simp only [cfv, cfc] at *
  cases ca
  all_goals
    simp only [if_true, if_false, Bool.false_eq_true] at K2
    go_enter Tryz.func50, Tryz.ntmps50
    go_wp2_with fail
    go_at_call 70
    refine (K1 _ _ _ (by simp) (by go_simp) (by go_simp)).mono ?_
    rintro e v1 ⟨rfl, hb⟩
    have A1 := (A0.out.alloc _).trans hb
    clear hb K1
    obtain ⟨-, -, x2, x3, x4, x5, x6, -, -⟩ := A1.cells
    have Z1 : w.heap.size < v1.heap.size := by have := A1.size; omega
    have HA1 : Hid (At w _ v1) := A1
    clear A1
    cases T1 with
    | true =>
      go_wp2
      go_ret
      exact ⟨rfl, HA1.out.below⟩
    | false =>
      go_wp2_with fail
      go_at_call 70
      refine (K2 _ _ _ (by simp) (by go_simp)).mono ?_
      rintro e v2 ⟨rfl, hb⟩
      clear x2 x3 x4 x5 x6 Z1 K2
      have A2 := (HA1.out.alloc _).trans hb
      clear hb
      obtain ⟨-, -, -, x3, x4, x5, x6, -, -⟩ := A2.cells
      have Z2 : w.heap.size < v2.heap.size := by have := A2.size; omega
      have HA2 : Hid (At w _ v2) := A2
      clear A2 HA1
      cases T2 with
      | true =>
        go_wp2
        go_ret
        exact ⟨rfl, HA2.out.below⟩
      | false =>
        go_wp2_with fail
        go_at_call 70
        refine (K3 _ _ _ (by simp) (by go_simp) (by go_simp) (by go_simp)).mono ?_
        rintro e v3 ⟨rfl, hb⟩
        clear x3 x4 x5 x6 Z2 K3
        have A3 := (HA2.out.alloc _).trans hb
        clear hb
        obtain ⟨-, -, -, -, -, -, x6, -, -⟩ := A3.cells
        have Z3 : w.heap.size < v3.heap.size := by have := A3.size; omega
        have HA3 : Hid (At w _ v3) := A3
        clear A3 HA2
        cases T3 with
        | true =>
          go_wp2
          go_ret
          exact ⟨rfl, HA3.out.below⟩
        | false =>
          go_wp2_with fail
          go_at_call 70
          refine (K4 _ _ _ (by simp) (by go_simp)).mono ?_
          rintro e v4 ⟨rfl, hb⟩
          clear x6 Z3 K4
          have A4 := (HA3.out.alloc _).trans hb
          have HA4 : Hid (At w _ v4) := A4
          clear A4 HA3 hb
          cases T4 with
          | true =>
            go_wp2
            go_ret
            exact ⟨rfl, HA4.out.below⟩
          | false =>
            go_wp2
            go_ret
            exact ⟨rfl, HA4.out.below⟩

/-- The document's 'within'. -/
theorem rwithin_any (n lo hi : Int) (w : World) : Calls Tryz.prog 55 #[.int .i64 n, .int .i64 lo, .int .i64 hi] w fun e w' => e = .returned (.bool (!(outB lo hi n))) ∧ w = w' := by
  by_cases h1 : lo ≤ n
  · have h1' : ¬ n < lo := by omega
    by_cases h2 : n ≤ hi
    · have h2' : ¬ hi < n := by omega
      have e : outB lo hi n = false := by unfold outB; simp [h1', h2']
      rw [e]
      clear e
      go_enter Tryz.func55, Tryz.ntmps55
      go_wp2
      go_ret
      exact ⟨rfl, rfl⟩
    · have h2' : hi < n := by omega
      have e : outB lo hi n = true := by unfold outB; simp [h2']
      rw [e]
      clear e
      go_enter Tryz.func55, Tryz.ntmps55
      go_wp2
      go_ret
      exact ⟨rfl, rfl⟩
  · have h1' : n < lo := by omega
    have e : outB lo hi n = true := by unfold outB; simp [h1']
    rw [e]
    clear e
    go_enter Tryz.func55, Tryz.ntmps55
    go_wp2
    go_ret
    exact ⟨rfl, rfl⟩
end Go.Proofs.YtoejpngdkcnnhaaGreat.G

namespace Go.Proofs.YtoejpngdkcnnhaaGreat.G
open Go.RowKit

theorem box_cells (w : World) (c : Cf) : (w.alloc (.cells (cfc c) 23)).cell? ⟨w.heap.size, 0, none⟩ = some (.int .i64 c.w) := (At.start w c).cell 0

def u2 (c : Cf) : Bool := outB 1 8 c.l
def u3 (c : Cf) : Bool := c.ca && decide (c.l < 2)
theorem t2_eq (c : Cf) : t2 c = (u2 c || u3 c) := by
  unfold t2 u2 u3 outB
  cases c.ca
  · simp
  · rw [Bool.eq_iff_iff]
    simp only [if_true, Bool.or_eq_true, decide_eq_true_eq, Bool.true_and]
    omega

set_option maxHeartbeats 1000000 in
theorem rcheck_any (c : Cf) (w : World) : Calls Tryz.prog 35 #[cfv c] w fun e w' => e = .returned (.int .i64 (chk c)) ∧ Below w.heap.size w w' := by
  have A0 : Hid (Below w.heap.size w (w.alloc (.cells (cfc c) 23))) := (At.start w c).below
  have K := rwithin_any
  have D : chk c = if (outB 1 64 c.w || outB 1 64 c.h) = true then 4 else if (outB 1 8 c.l || (c.ca && decide (c.l < 2)) || outB 1 64 c.d || outB 1 64 c.r || outB 1 64 c.i || outB 1 16 c.b) = true then 10 else 0 := by
    unfold chk
    rw [t2_eq]
    unfold t1 u2 u3 t3 t4
    generalize outB 1 8 c.l = a
    generalize (c.ca && decide (c.l < 2)) = b
    generalize outB 1 64 c.d = x
    generalize outB 1 64 c.r = y
    generalize outB 1 64 c.i = z
    generalize outB 1 16 c.b = u
    cases a <;> cases b <;> cases x <;> cases y <;> cases z <;> cases u <;> rfl
  rw [D]
  clear D
  have Kw := fun w => K c.w 1 64 w
  have Kh := fun w => K c.h 1 64 w
  have Kl := fun w => K c.l 1 8 w
  have Kd := fun w => K c.d 1 64 w
  have Kr := fun w => K c.r 1 64 w
  have Ki := fun w => K c.i 1 64 w
  have Kb := fun w => K c.b 1 16 w
  clear K
  generalize outB 1 64 c.w = Bw at *
  generalize outB 1 64 c.h = Bh at *
  generalize outB 1 8 c.l = Bl at *
  generalize outB 1 64 c.d = Bd at *
  generalize outB 1 64 c.r = Br at *
  generalize outB 1 64 c.i = Bi at *
  generalize outB 1 16 c.b = Bb at *
  obtain ⟨cw, ch, cl, cd, cr, ci, cb, we, ca⟩ := c
  simp only [cfv, cfc] at *
  obtain ⟨R, hR⟩ : ∃ R : Int, R = (if (Bw || Bh) = true then 4 else if (Bl || (ca && decide (cl < 2)) || Bd || Br || Bi || Bb) = true then 10 else 0) := ⟨_, rfl⟩
  rw [← hR]
  have HR : Hid (R = (if (Bw || Bh) = true then 4 else if (Bl || (ca && decide (cl < 2)) || Bd || Br || Bi || Bb) = true then 10 else 0)) := hR
  clear hR
  cases Bw with
  | true =>
    go_enter Tryz.func35, Tryz.ntmps35
    go_wp2_with (go_at_call 55; (with_reducible refine (Kw _).mono ?_); rintro e w' ⟨rfl, rfl⟩)
    go_ret
    exact ⟨ret_int (by have h := HR.out; simp at h; exact h.symm), A0.out⟩
  | false =>
    cases Bh with
    | true =>
      go_enter Tryz.func35, Tryz.ntmps35
      go_wp2_with fail
      go_at_call 55
      refine (Kw _).mono ?_
      rintro e w' ⟨rfl, rfl⟩
      go_wp2_with fail
      go_at_call 55
      refine (Kh _).mono ?_
      rintro e w' ⟨rfl, rfl⟩
      go_wp2
      go_ret
      exact ⟨ret_int (by have h := HR.out; simp at h; exact h.symm), A0.out⟩
    | false =>
      go_enter Tryz.func35, Tryz.ntmps35
      go_wp2_with fail
      go_at_call 55
      refine (Kw _).mono ?_
      rintro e w' ⟨rfl, rfl⟩
      go_wp2_with fail
      go_at_call 55
      refine (Kh _).mono ?_
      rintro e w' ⟨rfl, rfl⟩
      go_wp2_with fail
      go_at_call 55
      refine (Kl _).mono ?_
      rintro e w' ⟨rfl, rfl⟩
      cases Bl with
      | true =>
        go_wp2
        go_ret
        exact ⟨ret_int (by have h := HR.out; simp at h; exact h.symm), A0.out⟩
      | false =>
        cases ca with
        | true =>
          by_cases h2 : cl < 2
          · have hd : decide (cl < 2) = true := by simpa using h2
            go_wp2
            go_ret
            exact ⟨ret_int (by have h := HR.out; simp [hd] at h; exact h.symm), A0.out⟩
          · have hd : decide (cl < 2) = false := by simpa using h2
            go_wp2_with fail
            go_at_call 55
            refine (Kd _).mono ?_
            rintro e w' ⟨rfl, rfl⟩
            cases Bd with
            | true =>
              go_wp2
              go_ret
              exact ⟨ret_int (by have h := HR.out; simp [hd] at h; exact h.symm), A0.out⟩
            | false =>
              go_wp2_with fail
              go_at_call 55
              refine (Kr _).mono ?_
              rintro e w' ⟨rfl, rfl⟩
              cases Br with
              | true =>
                go_wp2
                go_ret
                exact ⟨ret_int (by have h := HR.out; simp [hd] at h; exact h.symm), A0.out⟩
              | false =>
                go_wp2_with fail
                go_at_call 55
                refine (Ki _).mono ?_
                rintro e w' ⟨rfl, rfl⟩
                cases Bi with
                | true =>
                  go_wp2
                  go_ret
                  exact ⟨ret_int (by have h := HR.out; simp [hd] at h; exact h.symm), A0.out⟩
                | false =>
                  go_wp2_with fail
                  go_at_call 55
                  refine (Kb _).mono ?_
                  rintro e w' ⟨rfl, rfl⟩
                  cases Bb with
                  | true =>
                    go_wp2
                    go_ret
                    exact ⟨ret_int (by have h := HR.out; simp [hd] at h; exact h.symm), A0.out⟩
                  | false =>
                    go_wp2
                    go_ret
                    exact ⟨ret_int (by have h := HR.out; simp [hd] at h; exact h.symm), A0.out⟩
        | false =>
          go_wp2_with fail
          go_at_call 55
          refine (Kd _).mono ?_
          rintro e w' ⟨rfl, rfl⟩
          cases Bd with
          | true =>
            go_wp2
            go_ret
            exact ⟨ret_int (by have h := HR.out; simp at h; exact h.symm), A0.out⟩
          | false =>
            go_wp2_with fail
            go_at_call 55
            refine (Kr _).mono ?_
            rintro e w' ⟨rfl, rfl⟩
            cases Br with
            | true =>
              go_wp2
              go_ret
              exact ⟨ret_int (by have h := HR.out; simp at h; exact h.symm), A0.out⟩
            | false =>
              go_wp2_with fail
              go_at_call 55
              refine (Ki _).mono ?_
              rintro e w' ⟨rfl, rfl⟩
              cases Bi with
              | true =>
                go_wp2
                go_ret
                exact ⟨ret_int (by have h := HR.out; simp at h; exact h.symm), A0.out⟩
              | false =>
                go_wp2_with fail
                go_at_call 55
                refine (Kb _).mono ?_
                rintro e w' ⟨rfl, rfl⟩
                cases Bb with
                | true =>
                  go_wp2
                  go_ret
                  exact ⟨ret_int (by have h := HR.out; simp at h; exact h.symm), A0.out⟩
                | false =>
                  go_wp2
                  go_ret
                  exact ⟨ret_int (by have h := HR.out; simp at h; exact h.symm), A0.out⟩
end Go.Proofs.YtoejpngdkcnnhaaGreat.G

namespace Go.Proofs.YtoejpngdkcnnhaaGreat.G
open Go.RowKit

theorem outB_false {lo hi x : Int} (h : outB lo hi x = false) : lo ≤ x ∧ x ≤ hi := by
  unfold outB at h
  simp only [Bool.or_eq_false_iff, decide_eq_false_iff_not] at h
  omega

structure Fits (c : Cf) : Prop where
  w1 : 1 ≤ c.w
  w2 : c.w ≤ 64
  h1 : 1 ≤ c.h
  h2 : c.h ≤ 64
  l1 : 1 ≤ c.l
  l2 : c.l ≤ 8
  lc : c.ca = true → 2 ≤ c.l
  d1 : 1 ≤ c.d
  d2 : c.d ≤ 64
  r1 : 1 ≤ c.r
  r2 : c.r ≤ 64
  i1 : 1 ≤ c.i
  i2 : c.i ≤ 64
  b1 : 1 ≤ c.b
  b2 : c.b ≤ 16

theorem fits_of {c : Cf} (h : chk c = 0) : Fits c := by
  unfold chk at h
  cases e1 : t1 c with
  | true => simp [e1] at h
  | false =>
    cases e2 : t2 c with
    | true => simp [e1, e2] at h
    | false =>
      cases e3 : t3 c with
      | true => simp [e1, e2, e3] at h
      | false =>
        cases e4 : t4 c with
        | true => simp [e1, e2, e3, e4] at h
        | false =>
          unfold t1 at e1
          unfold t2 at e2
          unfold t3 at e3
          unfold t4 at e4
          simp only [Bool.or_eq_false_iff] at e1 e3
          have a := outB_false e1.1
          have b := outB_false e1.2
          have d := outB_false e2
          have x := outB_false e3.1.1
          have y := outB_false e3.1.2
          have z := outB_false e3.2
          have u := outB_false e4
          have d' : 1 ≤ c.l := by
            cases hc : c.ca <;> simp [hc] at d <;> omega
          exact ⟨a.1, a.2, b.1, b.2, d', d.2, (fun hc => by simp [hc] at d; omega), x.1, x.2, y.1, y.2, z.1, z.2, u.1, u.2⟩

/-- What a check tells is one of three numbers. -/
theorem chk_cases (c : Cf) : chk c = 0 ∨ chk c = 4 ∨ chk c = 10 := by
  unfold chk
  cases t1 c <;> cases t2 c <;> cases t3 c <;> cases t4 c <;> simp

def nod (c : Cf) : Int := if chk c = 0 then c.w * c.h else 0

theorem mul_in {a b : Int} (h1 : 1 ≤ a) (h2 : a ≤ 64) (h3 : 1 ≤ b) (h4 : b ≤ 64) : 1 ≤ a * b ∧ a * b ≤ 4096 := by
  obtain ⟨x, rfl⟩ := Int.eq_ofNat_of_zero_le (by omega : 0 ≤ a)
  obtain ⟨y, rfl⟩ := Int.eq_ofNat_of_zero_le (by omega : 0 ≤ b)
  have g1 : x * y ≤ 64 * 64 := Nat.mul_le_mul (by omega) (by omega)
  have g2 : 1 * 1 ≤ x * y := Nat.mul_le_mul (by omega) (by omega)
  have e : ((x : Int) * (y : Int)) = ((x * y : Nat) : Int) := by simp
  rw [e]
  omega

theorem nodes_any (c : Cf) (w : World) : Calls Tryz.prog 44 #[cfv c] w fun e w' => e = .returned (.int .i64 (nod c)) ∧ Below w.heap.size w w' := by
  have K := check_any c
  have F := fun h => @fits_of c h
  have A0 : Hid (At w c (w.alloc (.cells (cfc c) 23))) := At.start w c
  unfold nod
  rcases chk_cases c with h | h | h
  · have f := F h
    have hm := mul_in f.w1 f.w2 f.h1 f.h2
    rw [if_pos h]
    rw [h] at K
    clear F h f
    obtain ⟨cw, ch, cl, cd, cr, ci, cb, we, ca⟩ := c
    simp only [cfv, cfc] at *
    obtain ⟨M, hM⟩ : ∃ M : Int, M = cw * ch := ⟨_, rfl⟩
    have HM : Hid (M = cw * ch) := hM
    rw [← hM] at hm ⊢
    obtain ⟨m1, m2⟩ := hm
    clear hM
    go_enter Tryz.func44, Tryz.ntmps44
    go_wp2_with fail
    go_at_call 50
    refine (K _).mono ?_
    rintro e v1 ⟨rfl, hb⟩
    have A1 := A0.out.trans hb
    clear hb K
    obtain ⟨x0, x1, -, -, -, -, -, -, -⟩ := A1.cells
    have HA1 : Hid (At w _ v1) := A1
    clear A1
    go_wp2
    go_ret
    exact ⟨ret_int (by rw [← HM.out]; exact IntWalk.wrap64_in _ (by omega)), HA1.out.below⟩
  all_goals
    have h0 : ¬ chk c = 0 := by rw [h]; decide
    rw [if_neg h0]
    rw [h] at K
    clear F h h0
    obtain ⟨cw, ch, cl, cd, cr, ci, cb, we, ca⟩ := c
    simp only [cfv, cfc] at *
    go_enter Tryz.func44, Tryz.ntmps44
    go_wp2_with fail
    go_at_call 50
    refine (K _).mono ?_
    rintro e v1 ⟨rfl, hb⟩
    have HA1 : Hid (At w _ v1) := A0.out.trans hb
    clear hb K
    go_wp2
    go_ret
    exact ⟨rfl, HA1.out.below⟩
theorem rnodes_any (c : Cf) (w : World) : Calls Tryz.prog 17 #[cfv c] w fun e w' => e = .returned (.int .i64 (nod c)) ∧ Below w.heap.size w w' := by
  have K := rcheck_any c
  have F := fun h => @fits_of c h
  have A0 : Hid (At w c (w.alloc (.cells (cfc c) 23))) := At.start w c
  unfold nod
  rcases chk_cases c with h | h | h
  · have f := F h
    have hm := mul_in f.w1 f.w2 f.h1 f.h2
    rw [if_pos h]
    rw [h] at K
    clear F h f
    obtain ⟨cw, ch, cl, cd, cr, ci, cb, we, ca⟩ := c
    simp only [cfv, cfc] at *
    obtain ⟨M, hM⟩ : ∃ M : Int, M = cw * ch := ⟨_, rfl⟩
    have HM : Hid (M = cw * ch) := hM
    rw [← hM] at hm ⊢
    obtain ⟨m1, m2⟩ := hm
    clear hM
    go_enter Tryz.func17, Tryz.ntmps17
    go_wp2_with fail
    go_at_call 35
    refine (K _).mono ?_
    rintro e v1 ⟨rfl, hb⟩
    have A1 := A0.out.trans hb
    clear hb K
    obtain ⟨x0, x1, -, -, -, -, -, -, -⟩ := A1.cells
    have HA1 : Hid (At w _ v1) := A1
    clear A1
    go_wp2
    go_ret
    exact ⟨ret_int (by rw [← HM.out]; exact IntWalk.wrap64_in _ (by omega)), HA1.out.below⟩
  all_goals
    have h0 : ¬ chk c = 0 := by rw [h]; decide
    rw [if_neg h0]
    rw [h] at K
    clear F h h0
    obtain ⟨cw, ch, cl, cd, cr, ci, cb, we, ca⟩ := c
    simp only [cfv, cfc] at *
    go_enter Tryz.func17, Tryz.ntmps17
    go_wp2_with fail
    go_at_call 35
    refine (K _).mono ?_
    rintro e v1 ⟨rfl, hb⟩
    have HA1 : Hid (At w _ v1) := A0.out.trans hb
    clear hb K
    go_wp2
    go_ret
    exact ⟨rfl, HA1.out.below⟩
end Go.Proofs.YtoejpngdkcnnhaaGreat.G

namespace Go.Proofs.YtoejpngdkcnnhaaGreat.G

/-- There is such a node. -/
def isN (c : Cf) (n : Int) : Bool := decide (0 ≤ n) && decide (n < nod c)
/-- Its place, and what the call says of it. -/
def plx (c : Cf) (n : Int) : Int := if isN c n = true then n % c.w else 0
def ply (c : Cf) (n : Int) : Int := if isN c n = true then n / c.w else 0
def ple (c : Cf) (n : Int) : Int := if isN c n = true then 0 else 5
/-- There is such a place, its node, and what the call says of it. -/
def inP (c : Cf) (x y : Int) : Bool := decide (chk c = 0) && ((decide (0 ≤ x) && decide (x < c.w)) && (decide (0 ≤ y) && decide (y < c.h)))
def atn (c : Cf) (x y : Int) : Int := if inP c x y = true then y * c.w + x else 0
def ate (c : Cf) (x y : Int) : Int := if inP c x y = true then 0 else 5
/-- A port's step. -/
def dx (p : Int) : Int := if p = 1 then 1 else if p = 2 then -1 else 0
def dy (p : Int) : Int := if p = 3 then 1 else if p = 4 then -1 else 0
def isP (p : Int) : Bool := decide (0 ≤ p) && decide (p < 5)
/-- Whether there is a node to which the port leads, and which. -/
def bsB (c : Cf) (n p : Int) : Bool := isN c n && (isP p && inP c (plx c n + dx p) (ply c n + dy p))
def bsN (c : Cf) (n p : Int) : Int := if bsB c n p = true then (ply c n + dy p) * c.w + (plx c n + dx p) else 0
/-- The port that leads back. -/
def bck (p : Int) : Int := if p = 0 then 0 else if p = 1 then 2 else if p = 2 then 1 else if p = 3 then 4 else if p = 4 then 3 else -1
/-- How far two numbers are apart. -/
def btw (a b : Int) : Int := if a ≤ b then b - a else a - b
def fr (c : Cf) (a b : Int) : Int := if (isN c a && isN c b) = true then btw (plx c a) (plx c b) + btw (ply c a) (ply c b) else -1
/-- The ports below k that lead from a node to another one. -/
def prtK (c : Cf) (n : Int) (k : Nat) : List Int := ((List.range k).map fun (i : Nat) => (i : Int)).filter fun p => decide (p ≠ 0) && bsB c n p
def prt (c : Cf) (n : Int) : List Int := prtK c n 5
/-- The channels of the nodes below k. -/
def lksK (c : Cf) (k : Nat) : List (Int × Int) := (List.range k).flatMap fun (i : Nat) => (prt c (i : Int)).map fun p => ((i : Int), p)
def lks (c : Cf) : List (Int × Int) := lksK c (nod c).toNat

theorem nod_of {c : Cf} (h : chk c = 0) : nod c = c.w * c.h := by unfold nod; rw [if_pos h]
theorem nod_not {c : Cf} (h : chk c ≠ 0) : nod c = 0 := by unfold nod; rw [if_neg h]
theorem nod_in (c : Cf) : 0 ≤ nod c ∧ nod c ≤ 4096 := by
  by_cases h : chk c = 0
  · have f := fits_of h
    have := mul_in f.w1 f.w2 f.h1 f.h2
    rw [nod_of h]
    omega
  · rw [nod_not h]; omega
theorem isN_ok {c : Cf} {n : Int} (h : isN c n = true) : chk c = 0 ∧ 0 ≤ n ∧ n < c.w * c.h := by
  unfold isN at h
  simp only [Bool.and_eq_true, decide_eq_true_eq] at h
  by_cases hc : chk c = 0
  · rw [nod_of hc] at h
    exact ⟨hc, h.1, h.2⟩
  · rw [nod_not hc] at h
    omega
theorem isN_mk {c : Cf} {n : Int} (h : chk c = 0) (h0 : 0 ≤ n) (h1 : n < c.w * c.h) : isN c n = true := by
  unfold isN
  rw [nod_of h]
  simp [h0, h1]
theorem isN_lt {c : Cf} {n : Int} (h : isN c n = true) : 0 ≤ n ∧ n < 4096 := by
  unfold isN at h
  simp only [Bool.and_eq_true, decide_eq_true_eq] at h
  have := nod_in c
  omega

theorem place_of {c : Cf} {n : Int} (h : isN c n = true) : chk c = 0 ∧ 0 ≤ plx c n ∧ plx c n < c.w ∧ 0 ≤ ply c n ∧ ply c n < c.h ∧ ply c n * c.w + plx c n = n := by
  obtain ⟨hc, h0, h1⟩ := isN_ok h
  have f := fits_of hc
  have hw : 0 < c.w := by have := f.w1; omega
  unfold plx ply
  rw [if_pos h, if_pos h]
  refine ⟨hc, Int.emod_nonneg _ (by omega), Int.emod_lt_of_pos _ hw, Int.ediv_nonneg h0 (by omega), ?_, ?_⟩
  · exact Int.ediv_lt_of_lt_mul hw (by rw [Int.mul_comm]; exact h1)
  · have := Int.mul_ediv_add_emod n c.w
    rw [Int.mul_comm] at this
    exact this
theorem plx_in (c : Cf) (n : Int) : 0 ≤ plx c n ∧ plx c n ≤ 63 := by
  cases h : isN c n with
  | true =>
    obtain ⟨hc, a, b, _⟩ := place_of h
    have := (fits_of hc).w2
    omega
  | false => unfold plx; rw [h]; simp
theorem ply_in (c : Cf) (n : Int) : 0 ≤ ply c n ∧ ply c n ≤ 63 := by
  cases h : isN c n with
  | true =>
    obtain ⟨hc, _, _, a, b, _⟩ := place_of h
    have := (fits_of hc).h2
    omega
  | false => unfold ply; rw [h]; simp
theorem inP_ok {c : Cf} {x y : Int} (h : inP c x y = true) : chk c = 0 ∧ 0 ≤ x ∧ x < c.w ∧ 0 ≤ y ∧ y < c.h := by
  unfold inP at h
  simp only [Bool.and_eq_true, decide_eq_true_eq] at h
  exact ⟨h.1, h.2.1.1, h.2.1.2, h.2.2.1, h.2.2.2⟩
theorem inP_mk {c : Cf} {x y : Int} (h : chk c = 0) (h1 : 0 ≤ x) (h2 : x < c.w) (h3 : 0 ≤ y) (h4 : y < c.h) : inP c x y = true := by
  unfold inP
  simp [h, h1, h2, h3, h4]
theorem node_in {c : Cf} {x y : Int} (h : inP c x y = true) : 0 ≤ y * c.w ∧ y * c.w + x < c.w * c.h ∧ y * c.w ≤ 4096 ∧ c.w * c.h ≤ 4096 := by
  obtain ⟨hc, h1, h2, h3, h4⟩ := inP_ok h
  have f := fits_of hc
  have hw : 0 ≤ c.w := by have := f.w1; omega
  have a : 0 ≤ y * c.w := Int.mul_nonneg h3 hw
  have b : y * c.w ≤ (c.h - 1) * c.w := Int.mul_le_mul_of_nonneg_right (by omega) hw
  have e : (c.h - 1) * c.w = c.w * c.h - c.w := by rw [Int.sub_mul, Int.mul_comm]; omega
  have m := mul_in f.w1 f.w2 f.h1 f.h2
  have := f.w1
  omega
theorem node_of {c : Cf} {x y : Int} (h : inP c x y = true) : isN c (y * c.w + x) = true ∧ plx c (y * c.w + x) = x ∧ ply c (y * c.w + x) = y := by
  obtain ⟨hc, h1, h2, h3, h4⟩ := inP_ok h
  obtain ⟨a, b, _, _⟩ := node_in h
  have i : isN c (y * c.w + x) = true := isN_mk hc (by omega) b
  refine ⟨i, ?_, ?_⟩
  · unfold plx
    rw [if_pos i, Int.add_comm, Int.add_mul_emod_self_right]
    exact Int.emod_eq_of_lt h1 h2
  · unfold ply
    rw [if_pos i, Int.add_comm, Int.add_mul_ediv_right _ _ (by omega), Int.ediv_eq_zero_of_lt h1 h2]
    omega
theorem atn_in (c : Cf) (x y : Int) : 0 ≤ atn c x y ∧ atn c x y < 4096 := by
  unfold atn
  split
  · rename_i h
    obtain ⟨_, h1, _⟩ := inP_ok h
    have := node_in h
    omega
  · omega
theorem bsN_in (c : Cf) (n p : Int) : 0 ≤ bsN c n p ∧ bsN c n p < 4096 := by
  unfold bsN
  split
  · rename_i h
    unfold bsB at h
    simp only [Bool.and_eq_true] at h
    have a := (inP_ok h.2.2).2.1
    have := node_in h.2.2
    omega
  · omega
theorem isP_iff (p : Int) : isP p = true ↔ p = 0 ∨ p = 1 ∨ p = 2 ∨ p = 3 ∨ p = 4 := by
  unfold isP
  simp only [Bool.and_eq_true, decide_eq_true_eq]
  omega

/-- A step that is taken: its places. -/
theorem step_ok {c : Cf} {n p : Int} (h : bsB c n p = true) :
    isN c n = true ∧ isP p = true ∧ inP c (plx c n + dx p) (ply c n + dy p) = true ∧ isN c (bsN c n p) = true ∧ plx c (bsN c n p) = plx c n + dx p ∧ ply c (bsN c n p) = ply c n + dy p := by
  have h' := h
  unfold bsB at h
  simp only [Bool.and_eq_true] at h
  obtain ⟨a, b, d⟩ := h
  have e := node_of d
  unfold bsN
  rw [if_pos h']
  exact ⟨a, b, d, e⟩
theorem step_mk {c : Cf} {n p : Int} (h : isN c n = true) (hp : isP p = true) (h1 : 0 ≤ plx c n + dx p) (h2 : plx c n + dx p < c.w) (h3 : 0 ≤ ply c n + dy p) (h4 : ply c n + dy p < c.h) : bsB c n p = true := by
  unfold bsB
  rw [h, hp, inP_mk (place_of h).1 h1 h2 h3 h4]
  rfl
/-- Two nodes of one place are one. -/
theorem node_eq {c : Cf} {a b : Int} (ha : isN c a = true) (hb : isN c b = true) (hx : plx c a = plx c b) (hy : ply c a = ply c b) : a = b := by
  have ea := (place_of ha).2.2.2.2.2
  have eb := (place_of hb).2.2.2.2.2
  rw [← ea, ← eb, hx, hy]

theorem bck_back {p : Int} (h : isP p = true) : isP (bck p) = true ∧ dx (bck p) = - dx p ∧ dy (bck p) = - dy p ∧ bck (bck p) = p := by
  rcases (isP_iff p).1 h with rfl | rfl | rfl | rfl | rfl <;> decide
theorem dx_in (p : Int) : -1 ≤ dx p ∧ dx p ≤ 1 := by
  unfold dx
  repeat' split
  all_goals omega
theorem dy_in (p : Int) : -1 ≤ dy p ∧ dy p ≤ 1 := by
  unfold dy
  repeat' split
  all_goals omega

/-- P5.2: who is beside one has it beside. -/
theorem back_ok {c : Cf} {n p : Int} (h : bsB c n p = true) : bsB c (bsN c n p) (bck p) = true ∧ bsN c (bsN c n p) (bck p) = n := by
  obtain ⟨h1, h2, h3, h4, h5, h6⟩ := step_ok h
  obtain ⟨b1, b2, b3, _⟩ := bck_back h2
  obtain ⟨_, p1, p2, p3, p4, _⟩ := place_of h1
  have hb : bsB c (bsN c n p) (bck p) = true := step_mk h4 b1 (by omega) (by omega) (by omega) (by omega)
  obtain ⟨_, _, _, k4, k5, k6⟩ := step_ok hb
  exact ⟨hb, node_eq k4 h1 (by omega) (by omega)⟩

theorem btw_comm (a b : Int) : btw a b = btw b a := by unfold btw; split <;> split <;> omega
theorem fr_comm (c : Cf) (a b : Int) : fr c a b = fr c b a := by
  unfold fr
  rw [Bool.and_comm, btw_comm, btw_comm (ply c a)]
theorem fr_ok {c : Cf} {a b : Int} (ha : isN c a = true) (hb : isN c b = true) : fr c a b = btw (plx c a) (plx c b) + btw (ply c a) (ply c b) := by
  unfold fr; rw [ha, hb]; rfl
theorem fr_in (c : Cf) (a b : Int) : -1 ≤ fr c a b ∧ fr c a b ≤ 126 := by
  have a1 := plx_in c a
  have a2 := ply_in c a
  have b1 := plx_in c b
  have b2 := ply_in c b
  unfold fr btw
  split
  · split <;> split <;> omega
  · omega
theorem fr_nonneg {c : Cf} {a b : Int} (ha : isN c a = true) (hb : isN c b = true) : 0 ≤ fr c a b := by
  rw [fr_ok ha hb]; unfold btw; split <;> split <;> omega
theorem fr_zero {c : Cf} {a b : Int} (ha : isN c a = true) (hb : isN c b = true) : fr c a b = 0 ↔ a = b := by
  rw [fr_ok ha hb]
  constructor
  · intro h
    refine node_eq ha hb ?_ ?_ <;> (unfold btw at h; revert h; split <;> split <;> intro h <;> omega)
  · rintro rfl
    unfold btw; simp
theorem fr_tri {c : Cf} {a b k : Int} (ha : isN c a = true) (hb : isN c b = true) (hk : isN c k = true) : fr c a b ≤ fr c a k + fr c k b := by
  rw [fr_ok ha hb, fr_ok ha hk, fr_ok hk hb]
  have t : ∀ x y z : Int, btw x y ≤ btw x z + btw z y := fun x y z => by unfold btw; split <;> split <;> split <;> omega
  have := t (plx c a) (plx c b) (plx c k)
  have := t (ply c a) (ply c b) (ply c k)
  omega
/-- A step changes how far it is by one. -/
theorem fr_step {c : Cf} {a b p : Int} (h : bsB c a p = true) (hp : p ≠ 0) (hb : isN c b = true) : fr c (bsN c a p) b = fr c a b + 1 ∨ fr c (bsN c a p) b = fr c a b - 1 := by
  obtain ⟨h1, h2, h3, h4, h5, h6⟩ := step_ok h
  rw [fr_ok h4 hb, fr_ok h1 hb, h5, h6]
  have g1 : p = 1 ∨ p = 2 ∨ p = 3 ∨ p = 4 := by have := (isP_iff p).1 h2; omega
  rcases g1 with rfl | rfl | rfl | rfl
  · rw [show dx 1 = 1 from rfl, show dy 1 = 0 from rfl, Int.add_zero]; unfold btw; split <;> split <;> split <;> omega
  · rw [show dx 2 = -1 from rfl, show dy 2 = 0 from rfl, Int.add_zero]; unfold btw; split <;> split <;> split <;> omega
  · rw [show dx 3 = 0 from rfl, show dy 3 = 1 from rfl, Int.add_zero]; unfold btw; split <;> split <;> split <;> omega
  · rw [show dx 4 = 0 from rfl, show dy 4 = -1 from rfl, Int.add_zero]; unfold btw; split <;> split <;> split <;> omega
/-- Steps along one way and along the other may be taken in whatever row. -/
theorem cross {c : Cf} {n p q : Int} (h1 : bsB c n p = true) (h2 : bsB c n q = true) (hp : 1 ≤ p) (hq : 1 ≤ q) (ha : (decide (p < 3)) ≠ decide (q < 3)) :
    bsB c (bsN c n p) q = true ∧ bsB c (bsN c n q) p = true ∧ bsN c (bsN c n p) q = bsN c (bsN c n q) p ∧ fr c n (bsN c (bsN c n p) q) = 2 := by
  obtain ⟨a1, a2, a3, a4, a5, a6⟩ := step_ok h1
  obtain ⟨b1, b2, b3, b4, b5, b6⟩ := step_ok h2
  obtain ⟨_, i1, i2, i3, i4⟩ := inP_ok a3
  obtain ⟨_, j1, j2, j3, j4⟩ := inP_ok b3
  obtain ⟨_, n1, n2, n3, n4, _⟩ := place_of a1
  have g1 : p = 1 ∨ p = 2 ∨ p = 3 ∨ p = 4 := by have := (isP_iff p).1 a2; omega
  have g2 : q = 1 ∨ q = 2 ∨ q = 3 ∨ q = 4 := by have := (isP_iff q).1 b2; omega
  have d : (dx p = 0 ∧ (dx q = 1 ∨ dx q = -1) ∧ dy q = 0 ∧ (dy p = 1 ∨ dy p = -1)) ∨ (dx q = 0 ∧ (dx p = 1 ∨ dx p = -1) ∧ dy p = 0 ∧ (dy q = 1 ∨ dy q = -1)) := by
    rcases g1 with rfl | rfl | rfl | rfl <;> rcases g2 with rfl | rfl | rfl | rfl <;> first | exact absurd rfl ha | decide
  have x1 : bsB c (bsN c n p) q = true := step_mk a4 b2 (by omega) (by omega) (by omega) (by omega)
  have x2 : bsB c (bsN c n q) p = true := step_mk b4 a2 (by omega) (by omega) (by omega) (by omega)
  obtain ⟨_, _, _, k4, k5, k6⟩ := step_ok x1
  obtain ⟨_, _, _, l4, l5, l6⟩ := step_ok x2
  refine ⟨x1, x2, node_eq k4 l4 (by omega) (by omega), ?_⟩
  rw [fr_ok a1 k4]
  unfold btw
  split <;> split <;> omega

theorem prtK_succ (c : Cf) (n : Int) (k : Nat) : prtK c n (k + 1) = if (decide ((k : Int) ≠ 0) && bsB c n k) = true then prtK c n k ++ [(k : Int)] else prtK c n k := by
  unfold prtK
  rw [List.range_succ, List.map_append, List.filter_append]
  simp only [List.map_cons, List.map_nil, List.filter_cons, List.filter_nil]
  split <;> simp
theorem prtK_length (c : Cf) (n : Int) (k : Nat) : (prtK c n k).length ≤ k := by
  unfold prtK
  refine Nat.le_trans (List.length_filter_le _ _) ?_
  simp
theorem lksK_succ (c : Cf) (k : Nat) : lksK c (k + 1) = lksK c k ++ (prt c k).map fun p => ((k : Int), p) := by
  unfold lksK
  rw [List.range_succ, List.flatMap_append]
  simp
theorem lksK_length (c : Cf) (k : Nat) : (lksK c k).length ≤ k * 5 := by
  induction k with
  | zero => simp [lksK]
  | succ k ih =>
    rw [lksK_succ, List.length_append, List.length_map]
    have := prtK_length c k 5
    unfold prt
    omega
end Go.Proofs.YtoejpngdkcnnhaaGreat.G

namespace Go.Proofs.YtoejpngdkcnnhaaGreat.G
open Go.RowKit

/-- A draw changes nothing. -/
theorem At.drew {w v : World} {c : Cf} (h : At w c v) : At w c v.drew := by
  have b : Below (w.heap.size + 1) (w.alloc (.cells (cfc c) 23)) v := h
  exact ⟨b.os, b.tape, b.output, b.size, b.block⟩
theorem At.drewN {w v : World} {c : Cf} (h : At w c v) (n : Nat) : At w c (v.drewN n) := by
  have b : Below (w.heap.size + 1) (w.alloc (.cells (cfc c) 23)) v := h
  exact ⟨b.os, b.tape, b.output, b.size, b.block⟩

theorem isBelow_any (n l : Int) (w : World) : Calls Tryz.prog 43 #[.int .i64 n, .int .i64 l] w fun e w' => e = .returned (.bool (decide (0 ≤ n) && decide (n < l))) ∧ w = w' := by
  by_cases h0 : 0 ≤ n
  · by_cases h1 : n < l
    · rw [show (decide (0 ≤ n) && decide (n < l)) = true by simp [h0, h1]]
      go_enter Tryz.func43, Tryz.ntmps43
      go_wp2
      go_ret
      exact ⟨rfl, rfl⟩
    · rw [show (decide (0 ≤ n) && decide (n < l)) = false by simp [h1]]
      go_enter Tryz.func43, Tryz.ntmps43
      go_wp2
      go_ret
      exact ⟨rfl, rfl⟩
  · rw [show (decide (0 ≤ n) && decide (n < l)) = false by simp [h0]]
    go_enter Tryz.func43, Tryz.ntmps43
    go_wp2
    go_ret
    exact ⟨rfl, rfl⟩

theorem is_any (c : Cf) (n : Int) (w : World) : Calls Tryz.prog 25 #[cfv c, .int .i64 n] w fun e w' => e = .returned (.bool (isN c n)) ∧ Below w.heap.size w w' := by
  have K := nodes_any c
  have I := isBelow_any n (nod c)
  have A0 : Hid (At w c (w.alloc (.cells (cfc c) 23))) := At.start w c
  unfold isN
  generalize nod c = M at *
  generalize (decide (0 ≤ n) && decide (n < M)) = t at *
  obtain ⟨cw, ch, cl, cd, cr, ci, cb, we, ca⟩ := c
  simp only [cfv, cfc] at *
  go_enter Tryz.func25, Tryz.ntmps25
  go_wp2_with fail
  go_at_call 44
  refine (K _).mono ?_
  rintro e v1 ⟨rfl, hb⟩
  have HA1 : Hid (At w _ v1) := A0.out.trans hb
  clear hb K
  go_wp2_with fail
  go_at_call 43
  refine (I _).mono ?_
  rintro e v2 ⟨rfl, rfl⟩
  go_wp2
  go_ret
  exact ⟨rfl, HA1.out.below⟩

end Go.Proofs.YtoejpngdkcnnhaaGreat.G

namespace Go.Proofs.YtoejpngdkcnnhaaGreat.G
open Go.RowKit

end Go.Proofs.YtoejpngdkcnnhaaGreat.G

namespace Go.Proofs.YtoejpngdkcnnhaaGreat.G
open Go.RowKit

theorem lt_of_heap {w : World} {b : Nat} {x : Obj} (h : w.heap[b]? = some x) : b < w.heap.size := by
  rcases Nat.lt_or_ge b w.heap.size with h' | h'
  · exact h'
  · rw [Array.getElem?_eq_none h'] at h; cases h
theorem cell_of {w : World} {b : Nat} {c : Array Value} {t : TypeId} {fr : Nat × Nat} (h : w.heap[b]? = some (.cells c t fr)) (k : Nat) : w.cell? ⟨b, k, none⟩ = c[k]? := by
  simp [World.cell?, h]

/-- A slice that reads as these values: in one block. -/
def Rd (w : World) (a : Option Addr) (vs : List Value) : Prop :=
  ∀ (j : Nat) (v : Value), vs[j]? = some v → ∃ g, a = some ⟨g, 0, none⟩ ∧ g < w.heap.size ∧ w.cell? ⟨g, j, none⟩ = some v
theorem Rd.keep {w w' : World} {a : Option Addr} {vs : List Value} (h : Rd w a vs) (hs : w.heap.size ≤ w'.heap.size) (hk : ∀ g, g < w.heap.size → w'.heap[g]? = w.heap[g]?) : Rd w' a vs := fun j v hj => by
  obtain ⟨g, h1, h2, h3⟩ := h j v hj
  exact ⟨g, h1, by omega, by rw [World.cell?_of_block (hk g h2)]; exact h3⟩
theorem Rd.below {w w' : World} {a : Option Addr} {vs : List Value} (h : Rd w a vs) (b : Below w.heap.size w w') : Rd w' a vs := h.keep b.size (fun g hg => b.block g hg)
theorem Rd.alloc {w : World} {a : Option Addr} {vs : List Value} (h : Rd w a vs) (o : Obj) : Rd (w.alloc o) a vs := h.keep (by simp) (fun g hg => Below.heap_alloc _ _ _ hg)

def Own (e : TypeId) (w : World) (B : Nat) (v : Value) (l : List Value) : Prop := w.ownsRow B e 1 v l.length l
theorem Own.rd {t : TypeId} {w : World} {B : Nat} {v : Value} {l : List Value} (h : Own t w B v l) : ∃ a cap, v = .slice a l.length cap ∧ l.length ≤ cap ∧ cap ≤ maxLen ∧ Rd w a l := by
  obtain ⟨h1, h2⟩ := h
  rcases h2 with ⟨rfl, h2⟩ | ⟨g, cap, cur, rfl, hg, hh, hc1, hc2, hc3, hc4⟩
  · refine ⟨none, 0, by rw [h2], by omega, by simp [maxLen], fun j v hj => ?_⟩
    have : l = [] := List.eq_nil_of_length_eq_zero h2
    subst this
    cases hj
  · refine ⟨_, _, rfl, hc1, hc2, fun j v hj => ⟨g, rfl, lt_of_heap hh, ?_⟩⟩
    have hlt : j < l.length * 1 := by
      have := (List.getElem?_eq_some_iff.mp hj).1
      rw [← h1]; exact this
    rw [cell_of hh]
    have : cur[j]? = (List.take (l.length * 1) cur.toList)[j]? := by rw [List.getElem?_take_of_lt hlt]; simp
    rw [this, hc4]
    exact hj
/-- A row that is not empty: its block. -/
theorem Own.form {e : TypeId} {w : World} {B : Nat} {v : Value} {l : List Value} (h : Own e w B v l) (hl : 0 < l.length) :
    ∃ g cap, v = .slice (some ⟨g, 0, none⟩) l.length cap ∧ l.length ≤ cap ∧ cap ≤ maxLen ∧ B ≤ g ∧ g < w.heap.size ∧ ∀ j x, l[j]? = some x → w.cell? ⟨g, j, none⟩ = some x := by
  have h0 := h
  obtain ⟨h1, h2⟩ := h
  rcases h2 with ⟨rfl, h2⟩ | ⟨g, cap, cur, rfl, hg, hh, hc1, hc2, hc3, hc4⟩
  · omega
  · refine ⟨g, cap, rfl, hc1, hc2, hg, lt_of_heap hh, fun j x hj => ?_⟩
    obtain ⟨a, cap', e, _, _, hr⟩ := h0.rd
    obtain ⟨g', e', _, hc⟩ := hr j x hj
    simp only [Value.slice.injEq] at e
    obtain ⟨e, _⟩ := e
    rw [e'] at e
    simp only [Option.some.injEq, Addr.mk.injEq] at e
    obtain ⟨rfl, _⟩ := e
    exact hc
theorem Own.snoc {t : TypeId} {w : World} {B : Nat} {v x : Value} {l : List Value} (h : w.ownsRow B t 1 v (l.length + 1) (l ++ [x])) : Own t w B v (l ++ [x]) := by
  unfold Own
  simpa using h
theorem Own.nil (w : World) (B : Nat) (e : TypeId) : Own e w B (.slice none 0 0) [] := World.ownsRow_nil w B e 1
theorem Own.mono {e : TypeId} {w : World} {B B' : Nat} {v : Value} {l : List Value} (h : Own e w B v l) (hb : B' ≤ B) : Own e w B' v l := by
  refine ⟨h.1, ?_⟩
  rcases h.2 with hn | ⟨g, cap, cur, e, hg, r⟩
  · exact Or.inl hn
  · exact Or.inr ⟨g, cap, cur, e, Nat.le_trans hb hg, r⟩
theorem Own.below {e : TypeId} {w w' : World} {B : Nat} {v : Value} {l : List Value} (h : Own e w B v l) (hb : Below w.heap.size w w') : Own e w' B v l := by
  refine ⟨h.1, ?_⟩
  rcases h.2 with hn | ⟨g, cap, cur, e, hg, hh, r⟩
  · exact Or.inl hn
  · exact Or.inr ⟨g, cap, cur, e, hg, by rw [hb.block g (lt_of_heap hh)]; exact hh, r⟩
/-- Written out. -/
theorem Own.lit {e : TypeId} {w : World} {B : Nat} (xs : Array Value) (hb : B ≤ w.heap.size) (hn : xs.size ≤ 1000) : Own e (w.alloc (.cells xs e)) B (.slice (some ⟨w.heap.size, 0, none⟩) xs.size xs.size) xs.toList := by
  have h := World.ownsRow_lit (e := e) (size := 1) (base := B) w xs xs.size hb (by unfold maxLen; omega) (by simp)
  unfold Own
  simpa using h
theorem own_ne {w : World} {B : Nat} {e t : TypeId} {v : Value} {l : List Value} {g : Nat} {C : Array Value} {fr : Nat × Nat} (h : Own e w B v l) (hg : w.heap[g]? = some (.cells C t fr)) (hne : e ≠ t) : v.ownBlock ≠ some g := by
  rcases h.2 with ⟨rfl, _⟩ | ⟨g', cap, cur, rfl, _, hh, _⟩
  · simp [Value.ownBlock]
  · intro he
    have : g' = g := by simpa [Value.ownBlock] using he
    subst this
    rw [hg] at hh
    injection hh with hh
    injection hh with _ ht
    exact hne ht.symm
theorem own_two {w : World} {B : Nat} {e t : TypeId} {v u : Value} {l k : List Value} (h : Own e w B v l) (h' : Own t w B u k) (hne : t ≠ e) : u.ownBlock = none ∨ u.ownBlock ≠ v.ownBlock := by
  rcases h'.2 with ⟨rfl, _⟩ | ⟨g', cap, cur, rfl, _, hh, _⟩
  · exact Or.inl rfl
  · refine Or.inr fun c => own_ne h hh (fun x => hne x.symm) ?_
    rw [← c]; rfl

/-- What an append of the call's own leaves as it was. -/
def Kept (e : TypeId) (B : Nat) (w w' : World) : Prop :=
  w.heap.size ≤ w'.heap.size ∧ (∀ A, Below B A w → Below B A w') ∧
  (∀ (t : TypeId) (v : Value) (l : List Value), t ≠ e → Own t w B v l → Own t w' B v l) ∧
  (∀ (g : Nat) (C : Array Value) (t : TypeId) (fr : Nat × Nat), t ≠ e → w.heap[g]? = some (Obj.cells C t fr) → w'.heap[g]? = some (Obj.cells C t fr))

theorem wpList_app_one {P : Program} {ops : Array Oper} {rest : List Oper} {o : Oper} {a : Act} {Q : Exit → Act → World → Prop} (hgd : o.guard = none) (s x : Operand) (t e : TypeId) (i : TypeInfo) (z : Value) (bytes : Nat)
    (ho : o.op = .call { callee := .builtin .append, args := #[s, x], argTypes := #[t, t] })
    (ht : P.underlying t = some (.slice e)) (hi : P.info? e = some i) (hz : i.zero = some z) (h1 : i.size = 1) (hby : i.bytes = bytes) (hzs : z.cells.size = 1) (hb8 : bytes ≤ 64)
    (B : Nat) (w : World) (v : Value) (L : List Value) (u : Value) (hs : a.eval s = v) (hown : Own e w B v L) (hx : a.eval x = .slice (some ⟨w.heap.size, 0, none⟩) 1 1) (hu : u.oneCell' = true)
    (hlen : L.length ≤ 1000000) (hbase : B ≤ w.heap.size)
    (h : ∀ v' w', Own e w' B v' (L ++ [u]) → Kept e B w w' → wpList P ops Q rest (a.put o.dst v') w') :
    wpList P ops Q (o :: rest) a (w.alloc (.cells #[u] e)) := by
  refine wpList_append_own _ hgd s x t ho B e i z 1 bytes ht hi hz h1 hby hzs (by decide) v L.length L hs (World.ownsRow.alloc hown _) ⟨w.heap.size, 0, none⟩ 1 1 [u] hx rfl ?_ ?_ ?_ ?_ ?_ ?_
  · intro j y hj
    match j, hj with
    | 0, hj => simp at hj; subst hj; exact (World.cell?_alloc_at _ _ _ _ rfl).trans rfl
  · intro y hy; simp at hy; subst hy; exact hu
  · unfold maxLen; omega
  · have : (L.length + 1) * bytes ≤ (L.length + 1) * 64 := Nat.mul_le_mul_left _ hb8
    omega
  · simp; omega
  · intro v' w' hown' hgrow _
    have hsz : (w.alloc (.cells #[u] e)).heap.size ≤ w'.heap.size := (hgrow.size : _)
    simp at hsz
    refine h v' w' (Own.snoc hown') ⟨by omega, fun A hA => ?_, fun t' v2 l2 hne h2 => ?_, fun g C t' fr hne hg => ?_⟩
    · exact Below.grown (hA.alloc hbase _) hgrow (by simp; omega) (fun q hq => (World.ownsRow.lt hown q hq).1)
    · exact World.ownsRow.kept (World.ownsRow.alloc h2 _) hgrow (own_two hown h2 hne)
    · rw [hgrow.block g (by have := lt_of_heap hg; simp; omega) (fun c => own_ne hown hg (fun x => hne x.symm) c.symm), Below.heap_alloc _ _ _ (lt_of_heap hg)]
      exact hg
end Go.Proofs.YtoejpngdkcnnhaaGreat.G

namespace Go.Proofs.YtoejpngdkcnnhaaGreat.G
open Go.RowKit

theorem nxt {w v v' : World} (h : Below w.heap.size w v) (hb : Below v.heap.size v v') : Below w.heap.size w v' := h.trans (hb.mono h.size)

/-- Block b holds this config. -/
def Blk (v : World) (b : Nat) (c : Cf) : Prop := v.heap[b]? = some (.cells (cfc c) 23 (0, 0))
theorem Blk.cell {v : World} {b : Nat} {c : Cf} (h : Blk v b c) (j : Nat) : v.cell? ⟨b, j, none⟩ = (cfc c)[j]? := cell_of h j
theorem Blk.free {v : World} {b : Nat} {c : Cf} (h : Blk v b c) (j : Nat) : v.frozen? ⟨b, j, none⟩ = false := by
  unfold Blk at h
  simp [World.frozen?, h]
theorem Blk.lt {v : World} {b : Nat} {c : Cf} (h : Blk v b c) : b < v.heap.size := lt_of_heap h
theorem Blk.below {v v' : World} {b : Nat} {c : Cf} (h : Blk v b c) (hb : Below v.heap.size v v') : Blk v' b c := by
  unfold Blk
  rw [hb.block b h.lt]
  exact h
theorem Blk.new (w : World) (c : Cf) : Blk (w.alloc (.cells (cfc c) 23)) w.heap.size c := heap_alloc_new w _
theorem Blk.alloc {v : World} {b : Nat} {c : Cf} (h : Blk v b c) (o : Obj) : Blk (v.alloc o) b c := h.below ((Below.refl _ _).alloc (Nat.le_refl _) o)
theorem Blk.all {v : World} {b : Nat} {c : Cf} (h : Blk v b c) (d : Cf) :
    Blk (((((((((v.setCell ⟨b, 0, none⟩ (.int .i64 d.w)).setCell ⟨b, 1, none⟩ (.int .i64 d.h)).setCell ⟨b, 2, none⟩ (.int .i64 d.l)).setCell ⟨b, 3, none⟩ (.int .i64 d.d)).setCell ⟨b, 4, none⟩ (.int .i64 d.r)).setCell ⟨b, 5, none⟩ (.int .i64 d.i)).setCell ⟨b, 6, none⟩ (.int .i64 d.b)).setCell ⟨b, 7, none⟩ (.bool d.we)).setCell ⟨b, 8, none⟩ (.bool d.ca)) b d := by
  unfold Blk at h ⊢
  simp [World.setCell, Array.getElem?_modify, h]
theorem below_nine {w v : World} {B b : Nat} (h : Below B w v) (hb : B ≤ b) (x0 x1 x2 x3 x4 x5 x6 x7 x8 : Value) :
    Below B w (((((((((v.setCell ⟨b, 0, none⟩ x0).setCell ⟨b, 1, none⟩ x1).setCell ⟨b, 2, none⟩ x2).setCell ⟨b, 3, none⟩ x3).setCell ⟨b, 4, none⟩ x4).setCell ⟨b, 5, none⟩ x5).setCell ⟨b, 6, none⟩ x6).setCell ⟨b, 7, none⟩ x7).setCell ⟨b, 8, none⟩ x8) :=
  ((((((((h.setCell hb _).setCell hb _).setCell hb _).setCell hb _).setCell hb _).setCell hb _).setCell hb _).setCell hb _).setCell hb _
theorem nine_far {v : World} {b k : Nat} (h : k ≠ b) (x0 x1 x2 x3 x4 x5 x6 x7 x8 : Value) :
    (((((((((v.setCell ⟨b, 0, none⟩ x0).setCell ⟨b, 1, none⟩ x1).setCell ⟨b, 2, none⟩ x2).setCell ⟨b, 3, none⟩ x3).setCell ⟨b, 4, none⟩ x4).setCell ⟨b, 5, none⟩ x5).setCell ⟨b, 6, none⟩ x6).setCell ⟨b, 7, none⟩ x7).setCell ⟨b, 8, none⟩ x8).heap[k]? = v.heap[k]? := by
  have f : ∀ (u : World) j x, (u.setCell ⟨b, j, none⟩ x).heap[k]? = u.heap[k]? := fun u j x => Below.heap_setCell u ⟨b, j, none⟩ x k h
  rw [f, f, f, f, f, f, f, f, f]

/-- A law's world: the config in the first block of the call's own, and an array in the one behind it. -/
def Wk (w : World) (c : Cf) (A : Array Value) (t : TypeId) (v : World) : Prop := Blk v w.heap.size c ∧ v.heap[w.heap.size + 1]? = some (.cells A t (0, 0)) ∧ Below w.heap.size w v
theorem Wk.start (w : World) (c : Cf) (A : Array Value) (t : TypeId) : Wk w c A t ((w.alloc (.cells (cfc c) 23)).alloc (.cells A t)) :=
  ⟨(Blk.new w c).alloc _, by
    have h := heap_alloc_new (w.alloc (.cells (cfc c) 23)) (.cells A t)
    rw [show (w.alloc (.cells (cfc c) 23)).heap.size = w.heap.size + 1 by simp] at h
    exact h, ((Below.refl _ _).alloc (Nat.le_refl _) _).alloc (by simp) _⟩
theorem Wk.next {w v v' : World} {c : Cf} {A : Array Value} {t : TypeId} (h : Wk w c A t v) (hb : Below v.heap.size v v') : Wk w c A t v' :=
  ⟨h.1.below hb, by rw [hb.block _ (lt_of_heap h.2.1)]; exact h.2.1, nxt h.2.2 hb⟩
theorem Wk.drewN {w v : World} {c : Cf} {A : Array Value} {t : TypeId} (h : Wk w c A t v) (n : Nat) : Wk w c A t (v.drewN n) := h.next ⟨rfl, rfl, rfl, Nat.le_refl _, fun _ _ => rfl⟩
theorem Wk.drew {w v : World} {c : Cf} {A : Array Value} {t : TypeId} (h : Wk w c A t v) : Wk w c A t v.drew := h.next ⟨rfl, rfl, rfl, Nat.le_refl _, fun _ _ => rfl⟩
theorem Wk.below {w v : World} {c : Cf} {A : Array Value} {t : TypeId} (h : Wk w c A t v) : Below w.heap.size w v := h.2.2
theorem Wk.lt {w v : World} {c : Cf} {A : Array Value} {t : TypeId} (h : Wk w c A t v) : w.heap.size + 1 < v.heap.size := lt_of_heap h.2.1
theorem Wk.arr {w v : World} {c : Cf} {A : Array Value} {t : TypeId} (h : Wk w c A t v) (j : Nat) : v.cell? ⟨w.heap.size + 1, j, none⟩ = A[j]? := cell_of h.2.1 j
theorem Wk.cells {w v : World} {c : Cf} {A : Array Value} {t : TypeId} (h : Wk w c A t v) :
    v.cell? ⟨w.heap.size, 0, none⟩ = some (.int .i64 c.w) ∧ v.cell? ⟨w.heap.size, 1, none⟩ = some (.int .i64 c.h) ∧ v.cell? ⟨w.heap.size, 2, none⟩ = some (.int .i64 c.l) ∧
    v.cell? ⟨w.heap.size, 3, none⟩ = some (.int .i64 c.d) ∧ v.cell? ⟨w.heap.size, 4, none⟩ = some (.int .i64 c.r) ∧ v.cell? ⟨w.heap.size, 5, none⟩ = some (.int .i64 c.i) ∧
    v.cell? ⟨w.heap.size, 6, none⟩ = some (.int .i64 c.b) ∧ v.cell? ⟨w.heap.size, 7, none⟩ = some (.bool c.we) ∧ v.cell? ⟨w.heap.size, 8, none⟩ = some (.bool c.ca) :=
  ⟨h.1.cell 0, h.1.cell 1, h.1.cell 2, h.1.cell 3, h.1.cell 4, h.1.cell 5, h.1.cell 6, h.1.cell 7, h.1.cell 8⟩
theorem Wk.free {w v : World} {c : Cf} {A : Array Value} {t : TypeId} (h : Wk w c A t v) :
    v.frozen? ⟨w.heap.size, 0, none⟩ = false ∧ v.frozen? ⟨w.heap.size, 1, none⟩ = false ∧ v.frozen? ⟨w.heap.size, 2, none⟩ = false ∧ v.frozen? ⟨w.heap.size, 3, none⟩ = false ∧ v.frozen? ⟨w.heap.size, 4, none⟩ = false ∧
    v.frozen? ⟨w.heap.size, 5, none⟩ = false ∧ v.frozen? ⟨w.heap.size, 6, none⟩ = false ∧ v.frozen? ⟨w.heap.size, 7, none⟩ = false ∧ v.frozen? ⟨w.heap.size, 8, none⟩ = false :=
  ⟨h.1.free 0, h.1.free 1, h.1.free 2, h.1.free 3, h.1.free 4, h.1.free 5, h.1.free 6, h.1.free 7, h.1.free 8⟩
/-- Another config is stored. -/
theorem Wk.all {w v : World} {c : Cf} {A : Array Value} {t : TypeId} (h : Wk w c A t v) (d : Cf) :
    Wk w d A t (((((((((v.setCell ⟨w.heap.size, 0, none⟩ (.int .i64 d.w)).setCell ⟨w.heap.size, 1, none⟩ (.int .i64 d.h)).setCell ⟨w.heap.size, 2, none⟩ (.int .i64 d.l)).setCell ⟨w.heap.size, 3, none⟩ (.int .i64 d.d)).setCell ⟨w.heap.size, 4, none⟩ (.int .i64 d.r)).setCell ⟨w.heap.size, 5, none⟩ (.int .i64 d.i)).setCell ⟨w.heap.size, 6, none⟩ (.int .i64 d.b)).setCell ⟨w.heap.size, 7, none⟩ (.bool d.we)).setCell ⟨w.heap.size, 8, none⟩ (.bool d.ca)) :=
  ⟨h.1.all d, (nine_far (by omega) _ _ _ _ _ _ _ _ _).trans h.2.1, below_nine h.2.2 (Nat.le_refl _) _ _ _ _ _ _ _ _ _⟩

/-- The same without an array. -/
def W1 (w : World) (c : Cf) (v : World) : Prop := Blk v w.heap.size c ∧ Below w.heap.size w v
theorem W1.start (w : World) (c : Cf) : W1 w c (w.alloc (.cells (cfc c) 23)) := ⟨Blk.new w c, (Below.refl _ _).alloc (Nat.le_refl _) _⟩
theorem W1.next {w v v' : World} {c : Cf} (h : W1 w c v) (hb : Below v.heap.size v v') : W1 w c v' := ⟨h.1.below hb, nxt h.2 hb⟩
theorem W1.drewN {w v : World} {c : Cf} (h : W1 w c v) (n : Nat) : W1 w c (v.drewN n) := h.next ⟨rfl, rfl, rfl, Nat.le_refl _, fun _ _ => rfl⟩
theorem W1.drew {w v : World} {c : Cf} (h : W1 w c v) : W1 w c v.drew := h.next ⟨rfl, rfl, rfl, Nat.le_refl _, fun _ _ => rfl⟩
theorem W1.below {w v : World} {c : Cf} (h : W1 w c v) : Below w.heap.size w v := h.2
theorem W1.lt {w v : World} {c : Cf} (h : W1 w c v) : w.heap.size < v.heap.size := lt_of_heap h.1
theorem W1.cells {w v : World} {c : Cf} (h : W1 w c v) :
    v.cell? ⟨w.heap.size, 0, none⟩ = some (.int .i64 c.w) ∧ v.cell? ⟨w.heap.size, 1, none⟩ = some (.int .i64 c.h) ∧ v.cell? ⟨w.heap.size, 2, none⟩ = some (.int .i64 c.l) ∧
    v.cell? ⟨w.heap.size, 3, none⟩ = some (.int .i64 c.d) ∧ v.cell? ⟨w.heap.size, 4, none⟩ = some (.int .i64 c.r) ∧ v.cell? ⟨w.heap.size, 5, none⟩ = some (.int .i64 c.i) ∧
    v.cell? ⟨w.heap.size, 6, none⟩ = some (.int .i64 c.b) ∧ v.cell? ⟨w.heap.size, 7, none⟩ = some (.bool c.we) ∧ v.cell? ⟨w.heap.size, 8, none⟩ = some (.bool c.ca) :=
  ⟨h.1.cell 0, h.1.cell 1, h.1.cell 2, h.1.cell 3, h.1.cell 4, h.1.cell 5, h.1.cell 6, h.1.cell 7, h.1.cell 8⟩
theorem W1.free {w v : World} {c : Cf} (h : W1 w c v) :
    v.frozen? ⟨w.heap.size, 0, none⟩ = false ∧ v.frozen? ⟨w.heap.size, 1, none⟩ = false ∧ v.frozen? ⟨w.heap.size, 2, none⟩ = false ∧ v.frozen? ⟨w.heap.size, 3, none⟩ = false ∧ v.frozen? ⟨w.heap.size, 4, none⟩ = false ∧
    v.frozen? ⟨w.heap.size, 5, none⟩ = false ∧ v.frozen? ⟨w.heap.size, 6, none⟩ = false ∧ v.frozen? ⟨w.heap.size, 7, none⟩ = false ∧ v.frozen? ⟨w.heap.size, 8, none⟩ = false :=
  ⟨h.1.free 0, h.1.free 1, h.1.free 2, h.1.free 3, h.1.free 4, h.1.free 5, h.1.free 6, h.1.free 7, h.1.free 8⟩
theorem W1.all {w v : World} {c : Cf} (h : W1 w c v) (d : Cf) :
    W1 w d (((((((((v.setCell ⟨w.heap.size, 0, none⟩ (.int .i64 d.w)).setCell ⟨w.heap.size, 1, none⟩ (.int .i64 d.h)).setCell ⟨w.heap.size, 2, none⟩ (.int .i64 d.l)).setCell ⟨w.heap.size, 3, none⟩ (.int .i64 d.d)).setCell ⟨w.heap.size, 4, none⟩ (.int .i64 d.r)).setCell ⟨w.heap.size, 5, none⟩ (.int .i64 d.i)).setCell ⟨w.heap.size, 6, none⟩ (.int .i64 d.b)).setCell ⟨w.heap.size, 7, none⟩ (.bool d.we)).setCell ⟨w.heap.size, 8, none⟩ (.bool d.ca)) :=
  ⟨h.1.all d, below_nine h.2 (Nat.le_refl _) _ _ _ _ _ _ _ _ _⟩
end Go.Proofs.YtoejpngdkcnnhaaGreat.G

namespace Go.Proofs.YtoejpngdkcnnhaaGreat.G
open Go.RowKit

theorem tm_in (x m : Int) (hm : 0 < m) : ∃ q : Int, (IntKind.u64.wrap x).tmod m = q ∧ 0 ≤ q ∧ q < m := by
  have h0 : 0 ≤ IntKind.u64.wrap x := by
    have := IntKind.wrap_u64 x
    rw [this]
    omega
  refine ⟨_, rfl, Int.tmod_nonneg _ h0, ?_⟩
  rw [Int.tmod_eq_emod_of_nonneg h0]
  exact Int.emod_lt_of_pos _ hm

/-- What Small makes. -/
def SmallP (w : World) (e : Ending) (w' : World) : Prop := ∃ c', e = .returned (cfv c') ∧ Below w.heap.size w w' ∧ Fits c' ∧ c'.w ≤ 4 ∧ c'.h ≤ 4
theorem SmallP.mk {w w' : World} {c' : Cf} (hb : Below w.heap.size w w') (f : Fits c') (hw : c'.w ≤ 4) (hh : c'.h ≤ 4) : SmallP w (.returned (cfv c')) w' := ⟨c', rfl, hb, f, hw, hh⟩

set_option maxRecDepth 100000 in
set_option maxHeartbeats 1000000 in
theorem small_any (c : Cf) (w : World) : Calls Tryz.prog 6 #[cfv c] w (SmallP w) := by
  obtain ⟨cw, ch, cl, cd, cr, ci, cb, we, ca⟩ := c
  obtain ⟨qw, ew, aw, bw⟩ := tm_in cw 4 (by decide)
  obtain ⟨qh, eh, ah, bh⟩ := tm_in ch 4 (by decide)
  obtain ⟨ql, el, al, bl⟩ := tm_in cl 3 (by decide)
  obtain ⟨qd, ed, ad, bd⟩ := tm_in cd 3 (by decide)
  obtain ⟨qr, er, ar, br⟩ := tm_in cr 3 (by decide)
  obtain ⟨qi, ei, ai, bi⟩ := tm_in ci 3 (by decide)
  obtain ⟨qb, eb, ab, bb⟩ := tm_in cb 4 (by decide)
  simp only [cfv, cfc] at *
  cases ca
  · go_enter Tryz.func6, Tryz.ntmps6
    go_wp2
    exact bodyPost_ret (v := .agg #[.int .i64 (1 + qw), .int .i64 (1 + qh), .int .i64 (1 + ql), .int .i64 (1 + qd), .int .i64 (1 + qr), .int .i64 (1 + qi), .int .i64 (1 + qb), .bool we, .bool false]) (by simp [results, Tryz.results6, go_sem]) rfl (SmallP.mk (c' := ⟨1 + qw, 1 + qh, (1 + ql), 1 + qd, 1 + qr, 1 + qi, 1 + qb, we, false⟩) ((((Below.refl _ _).alloc (Nat.le_refl _) _).alloc (by simp) _).alloc (by simp; omega) _) ⟨by show _ ≤ 1 + qw; omega, by show 1 + qw ≤ _; omega, by show _ ≤ 1 + qh; omega, by show 1 + qh ≤ _; omega, by show _ ≤ (1 + ql); omega, by show (1 + ql) ≤ _; omega, by intro h; show _ ≤ (1 + ql); first | omega | exact absurd h Bool.false_ne_true, by show _ ≤ 1 + qd; omega, by show 1 + qd ≤ _; omega, by show _ ≤ 1 + qr; omega, by show 1 + qr ≤ _; omega, by show _ ≤ 1 + qi; omega, by show 1 + qi ≤ _; omega, by show _ ≤ 1 + qb; omega, by show 1 + qb ≤ _; omega⟩ (by show 1 + qw ≤ _; omega) (by show 1 + qh ≤ _; omega))
  · by_cases hl : 1 + ql < 2
    · go_enter Tryz.func6, Tryz.ntmps6
      go_wp2
      exact bodyPost_ret (v := .agg #[.int .i64 (1 + qw), .int .i64 (1 + qh), .int .i64 2, .int .i64 (1 + qd), .int .i64 (1 + qr), .int .i64 (1 + qi), .int .i64 (1 + qb), .bool we, .bool true]) (by simp [results, Tryz.results6, go_sem]) rfl (SmallP.mk (c' := ⟨1 + qw, 1 + qh, 2, 1 + qd, 1 + qr, 1 + qi, 1 + qb, we, true⟩) ((((Below.refl _ _).alloc (Nat.le_refl _) _).alloc (by simp) _).alloc (by simp; omega) _) ⟨by show _ ≤ 1 + qw; omega, by show 1 + qw ≤ _; omega, by show _ ≤ 1 + qh; omega, by show 1 + qh ≤ _; omega, by show _ ≤ 2; omega, by show 2 ≤ _; omega, by intro h; show _ ≤ 2; first | omega | exact absurd h Bool.false_ne_true, by show _ ≤ 1 + qd; omega, by show 1 + qd ≤ _; omega, by show _ ≤ 1 + qr; omega, by show 1 + qr ≤ _; omega, by show _ ≤ 1 + qi; omega, by show 1 + qi ≤ _; omega, by show _ ≤ 1 + qb; omega, by show 1 + qb ≤ _; omega⟩ (by show 1 + qw ≤ _; omega) (by show 1 + qh ≤ _; omega))
    · go_enter Tryz.func6, Tryz.ntmps6
      go_wp2
      exact bodyPost_ret (v := .agg #[.int .i64 (1 + qw), .int .i64 (1 + qh), .int .i64 (1 + ql), .int .i64 (1 + qd), .int .i64 (1 + qr), .int .i64 (1 + qi), .int .i64 (1 + qb), .bool we, .bool true]) (by simp [results, Tryz.results6, go_sem]) rfl (SmallP.mk (c' := ⟨1 + qw, 1 + qh, (1 + ql), 1 + qd, 1 + qr, 1 + qi, 1 + qb, we, true⟩) ((((Below.refl _ _).alloc (Nat.le_refl _) _).alloc (by simp) _).alloc (by simp; omega) _) ⟨by show _ ≤ 1 + qw; omega, by show 1 + qw ≤ _; omega, by show _ ≤ 1 + qh; omega, by show 1 + qh ≤ _; omega, by show _ ≤ (1 + ql); omega, by show (1 + ql) ≤ _; omega, by intro h; show _ ≤ (1 + ql); first | omega | exact absurd h Bool.false_ne_true, by show _ ≤ 1 + qd; omega, by show 1 + qd ≤ _; omega, by show _ ≤ 1 + qr; omega, by show 1 + qr ≤ _; omega, by show _ ≤ 1 + qi; omega, by show 1 + qi ≤ _; omega, by show _ ≤ 1 + qb; omega, by show 1 + qb ≤ _; omega⟩ (by show 1 + qw ≤ _; omega) (by show 1 + qh ≤ _; omega))
end Go.Proofs.YtoejpngdkcnnhaaGreat.G

namespace Go.Proofs.YtoejpngdkcnnhaaGreat.G
open Go.RowKit


theorem small_form (c : Cf) (w : World) : Calls Tryz.prog 6 #[cfv c] w fun e w' => ∃ dw dh dl dd dr di db de da, e = .returned (.agg #[.int .i64 dw, .int .i64 dh, .int .i64 dl, .int .i64 dd, .int .i64 dr, .int .i64 di, .int .i64 db, .bool de, .bool da]) ∧ Below w.heap.size w w' ∧ Fits ⟨dw, dh, dl, dd, dr, di, db, de, da⟩ ∧ dw ≤ 4 ∧ dh ≤ 4 :=
  (small_any c w).mono fun _ _ ⟨c', he, hb, f, a, b⟩ => ⟨c'.w, c'.h, c'.l, c'.d, c'.r, c'.i, c'.b, c'.we, c'.ca, he, hb, f, a, b⟩

theorem outB_in {lo hi x : Int} (h1 : lo ≤ x) (h2 : x ≤ hi) : outB lo hi x = false := by
  unfold outB
  simp only [Bool.or_eq_false_iff, decide_eq_false_iff_not]
  omega
theorem chk_fits {c : Cf} (f : Fits c) : chk c = 0 := by
  have e1 : t1 c = false := by unfold t1; rw [outB_in f.w1 f.w2, outB_in f.h1 f.h2]; rfl
  have e2 : t2 c = false := by
    unfold t2
    apply outB_in
    · cases h : c.ca
      · simp [f.l1]
      · simp [f.lc h]
    · exact f.l2
  have e3 : t3 c = false := by unfold t3; rw [outB_in f.d1 f.d2, outB_in f.r1 f.r2, outB_in f.i1 f.i2]; rfl
  have e4 : t4 c = false := by unfold t4; rw [outB_in f.b1 f.b2]
  unfold chk
  rw [e1, e2, e3, e4]
  rfl

/-- A node that is there, made of any number. -/
def nde (c : Cf) (n : Int) : Int := (IntKind.u64.wrap n).tmod (nod c)
theorem nde_in {c : Cf} (h : chk c = 0) (n : Int) : isN c (nde c n) = true := by
  have f := fits_of h
  have hm := mul_in f.w1 f.w2 f.h1 f.h2
  obtain ⟨q, e, h0, h1⟩ := tm_in n (nod c) (by rw [nod_of h]; omega)
  unfold nde
  rw [e]
  unfold isN
  simp [h0, h1]

theorem node_any (c : Cf) (h : chk c = 0) (n : Int) (w : World) : Calls Tryz.prog 7 #[cfv c, .int .i64 n] w fun e w' => e = .returned (.int .i64 (nde c n)) ∧ Below w.heap.size w w' := by
  have K := rnodes_any c
  have A0 : Hid (At w c (w.alloc (.cells (cfc c) 23))) := At.start w c
  have f := fits_of h
  have hm := mul_in f.w1 f.w2 f.h1 f.h2
  obtain ⟨q, e, h0, h1⟩ := tm_in n (nod c) (by rw [nod_of h]; omega)
  unfold nde
  rw [e]
  rw [← nod_of h] at hm
  generalize nod c = N at *
  obtain ⟨m1, m2⟩ := hm
  have hq : q ≤ 4096 := by omega
  clear f h
  obtain ⟨cw, ch, cl, cd, cr, ci, cb, we, ca⟩ := c
  simp only [cfv, cfc] at *
  go_enter Tryz.func7, Tryz.ntmps7
  go_wp2_with fail
  go_at_call 17
  refine (K _).mono ?_
  rintro e v1 ⟨rfl, hb⟩
  have HA1 : Hid (At w _ v1) := A0.out.trans hb
  clear hb K
  go_wp2
  go_ret
  exact ⟨rfl, HA1.out.below⟩
end Go.Proofs.YtoejpngdkcnnhaaGreat.G

namespace Go.Proofs.YtoejpngdkcnnhaaGreat.G
open Go.RowKit

/-- The first lane of a class, and how many it has. -/
def cla (c : Cf) (k : Bool) : Int × Int := if chk c = 0 then (if c.ca = true then (if k = true then (c.l - 1, 1) else (0, c.l - 1)) else (if k = true then (0, 0) else (0, c.l))) else (0, 0)

theorem class_any (c : Cf) (k : Bool) (w : World) : Calls Tryz.prog 31 #[cfv c, .bool k] w fun e w' => e = .returned (.tuple #[.int .i64 (cla c k).1, .int .i64 (cla c k).2]) ∧ Below w.heap.size w w' := by
  have K := check_any c
  have F := fun h => @fits_of c h
  have A0 : Hid (At w c (w.alloc (.cells (cfc c) 23))) := At.start w c
  unfold cla
  rcases chk_cases c with h | h | h
  · have f := F h
    have l1 := f.l1
    have l2 := f.l2
    rw [if_pos h]
    rw [h] at K
    clear F h f
    obtain ⟨cw, ch, cl, cd, cr, ci, cb, we, ca⟩ := c
    simp only [cfv, cfc] at *
    cases ca <;> cases k
    all_goals
      go_enter Tryz.func31, Tryz.ntmps31
      go_wp2_with fail
      go_at_call 50
      refine (K _).mono ?_
      rintro e v1 ⟨rfl, hb⟩
      have A1 := A0.out.trans hb
      clear hb K
      obtain ⟨-, -, x2, -, -, -, -, -, x8⟩ := A1.cells
      have HA1 : Hid (At w _ v1) := A1
      have BB : Hid (∀ n, Below w.heap.size w (v1.drewN n)) := fun n => by
        have h := A1.below
        exact ⟨h.os, h.tape, h.output, h.size, h.block⟩
      clear A1
      go_wp2
      try go_quiet (fail)
      try go_wp2
      go_ret2
      exact ⟨rfl, by first | exact HA1.out.below | exact BB.out _ | exact BB.out 1⟩
  all_goals
    have h0 : ¬ chk c = 0 := by rw [h]; decide
    rw [if_neg h0]
    rw [h] at K
    clear F h h0
    obtain ⟨cw, ch, cl, cd, cr, ci, cb, we, ca⟩ := c
    simp only [cfv, cfc] at *
    go_enter Tryz.func31, Tryz.ntmps31
    go_wp2_with fail
    go_at_call 50
    refine (K _).mono ?_
    rintro e v1 ⟨rfl, hb⟩
    have HA1 : Hid (At w _ v1) := A0.out.trans hb
    clear hb K
    go_wp2
    go_ret2
    exact ⟨rfl, HA1.out.below⟩

theorem rclass_any (c : Cf) (k : Bool) (w : World) : Calls Tryz.prog 14 #[cfv c, .bool k] w fun e w' => e = .returned (.tuple #[.int .i64 (cla c k).1, .int .i64 (cla c k).2]) ∧ Below w.heap.size w w' := by
  have K := rcheck_any c
  have F := fun h => @fits_of c h
  have A0 : Hid (At w c (w.alloc (.cells (cfc c) 23))) := At.start w c
  unfold cla
  rcases chk_cases c with h | h | h
  · have f := F h
    have l1 := f.l1
    have l2 := f.l2
    rw [if_pos h]
    rw [h] at K
    clear F h f
    obtain ⟨cw, ch, cl, cd, cr, ci, cb, we, ca⟩ := c
    simp only [cfv, cfc] at *
    cases ca <;> cases k
    all_goals
      go_enter Tryz.func14, Tryz.ntmps14
      go_wp2_with fail
      go_at_call 35
      refine (K _).mono ?_
      rintro e v1 ⟨rfl, hb⟩
      have A1 := A0.out.trans hb
      clear hb K
      obtain ⟨-, -, x2, -, -, -, -, -, x8⟩ := A1.cells
      have HA1 : Hid (At w _ v1) := A1
      have BB : Hid (∀ n, Below w.heap.size w (v1.drewN n)) := fun n => by
        have h := A1.below
        exact ⟨h.os, h.tape, h.output, h.size, h.block⟩
      clear A1
      go_wp2
      try go_quiet (fail)
      try go_wp2
      go_ret2
      exact ⟨rfl, by first | exact HA1.out.below | exact BB.out _ | exact BB.out 1⟩
  all_goals
    have h0 : ¬ chk c = 0 := by rw [h]; decide
    rw [if_neg h0]
    rw [h] at K
    clear F h h0
    obtain ⟨cw, ch, cl, cd, cr, ci, cb, we, ca⟩ := c
    simp only [cfv, cfc] at *
    go_enter Tryz.func14, Tryz.ntmps14
    go_wp2_with fail
    go_at_call 35
    refine (K _).mono ?_
    rintro e v1 ⟨rfl, hb⟩
    have HA1 : Hid (At w _ v1) := A0.out.trans hb
    clear hb K
    go_wp2
    go_ret2
    exact ⟨rfl, HA1.out.below⟩
end Go.Proofs.YtoejpngdkcnnhaaGreat.G
