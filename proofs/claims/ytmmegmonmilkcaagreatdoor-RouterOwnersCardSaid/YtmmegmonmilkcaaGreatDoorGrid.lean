/-
  A config as plain data; the walks of config.within, of what it calls, and of config.Check.
  The walks of config.Check, Nodes, Class, and of the document's own.
  The walk of the document's Check, and of both Nodes and both Class.
  The walks of both Nodes; what a config that may be is.
  The walks of both Class.
  Nodes of a mesh, their places, who is beside whom, how far two are apart, and all channels, as plain mathematics.
  The walks of isBelow, Is, Place, At, and of the document's Is, X, Y, At.
  One line through all nodes, as plain mathematics: labels, the step toward a node, and ways.
  The contracts of Check, Nodes, Is, Place and At once more, with 'the count of draws is no less' beside Below; the walks of snake's turned, Label and Node over them. (Written by gen_gr.py out of the texts Cfg, Check, Nodes, Place.)
  The table of steps, and the walk of Beside.
  The walk of snake's Step. (Written by gen_step.py.)
  Where a packet may go, which turns are allowed, and the way along x first, as plain mathematics (layer 6).
  The tables of where a distance leads; the walk of Compare.
  Slices of the call's own that read as a list; append of one value as one law, over whatever program.
  Lists of numbers that are answered in new memory; the walk of the document's Same.
  The walks of toward and Options.
  The walk of Options.
  What walks of Choose and Straight ask of the plain mathematics.
  The walk of Choose.
  A config's block, and an array's behind it, through a law's walk: no function in it.
  The walk of the document's Small.
  Small as a struct written out; the walk of reticuleref05.Node; what walks of grid ask of a law's world.
  The walks of the document's Is, X, Y, At.
-/
import Derived.Test.YtmmegmonmilkcaaGreatDoorProg
import Derived.WalkKit
import Derived.BigQuiet
import Derived.BigCall
import Derived.Deep.QuietTactic
import Derived.Deep.LoopGhost
import Derived.WalkSpells
import Derived.WalkLawsBesides
import Derived.KernelRfl
import Derived.ProofKit
import Derived.Laws.StructEq
import Derived.Outline
import Derived.OwnWalk
import Derived.Sort.Grow
import Derived.Deep.RegionHeld3
import Derived.WalkSmall
import Derived.IntWalk

namespace Go.Proofs.YtmmegmonmilkcaaGreatDoor.G
open Go.RowKit

theorem ret_int {k : IntKind} {a b : Int} (h : a = b) : Ending.returned (.int k a) = .returned (.int k b) := by rw [h]
theorem ret_bool {a b : Bool} (h : a = b) : Ending.returned (.bool a) = .returned (.bool b) := by rw [h]

structure Cf where
  w : Int
  h : Int
  l : Int
  d : Int
  r : Int
  i : Int
  b : Int
  we : Bool
  ca : Bool

abbrev cfc (c : Cf) : Array Value := #[.int .i64 c.w, .int .i64 c.h, .int .i64 c.l, .int .i64 c.d, .int .i64 c.r, .int .i64 c.i, .int .i64 c.b, .bool c.we, .bool c.ca]
abbrev cfv (c : Cf) : Value := .agg (cfc c)

/-- A number is out of its bounds. -/
def outB (lo hi x : Int) : Bool := decide (x < lo) || decide (hi < x)

theorem pred_any (x lo hi : Int) (p q : Addr) (w : World) (hp : w.cell? p = some (.int .i64 lo)) (hq : w.cell? q = some (.int .i64 hi)) :
    Calls Tryz.prog 145 #[.int .i64 x, .pointer (some p), .pointer (some q)] w fun e w' => e = .returned (.bool (outB lo hi x)) ∧ w = w' := by
  by_cases h1 : x < lo
  · have e : outB lo hi x = true := by unfold outB; simp [h1]
    rw [e]
    clear e
    go_enter Tryz.func145, Tryz.ntmps145
    go_wp2
    go_ret
    exact ⟨rfl, rfl⟩
  · by_cases h2 : hi < x
    · have e : outB lo hi x = true := by unfold outB; simp [h2]
      rw [e]
      clear e
      go_enter Tryz.func145, Tryz.ntmps145
      go_wp2
      go_ret
      exact ⟨rfl, rfl⟩
    · have e : outB lo hi x = false := by unfold outB; simp [h1, h2]
      rw [e]
      clear e
      go_enter Tryz.func145, Tryz.ntmps145
      go_wp2
      go_ret
      exact ⟨rfl, rfl⟩

/-- The place of the first number that is out, or one below 0. -/
def FirstOut (lo hi : Int) (zs : List Int) (w : World) (e : Ending) (w' : World) : Prop :=
  w = w' ∧ ∃ r : Int, e = .returned (.int .i64 r) ∧ decide (0 ≤ r) = zs.any (outB lo hi)

set_option maxHeartbeats 1000000 in
theorem index_any (lo hi : Int) (b : Nat) (zs : List Int) (c : Nat) (p q : Addr) (w : World) (hp : w.cell? p = some (.int .i64 lo)) (hq : w.cell? q = some (.int .i64 hi))
    (hz : zs.length ≤ 100) (hc : ∀ j, j < zs.length → w.cell? ⟨b, j, none⟩ = some (.int .i64 (zs.getD j 0))) :
    Calls Tryz.prog 155 #[.slice (some ⟨b, 0, none⟩) zs.length c, .func (.func 145) #[] #[.pointer (some p), .pointer (some q)]] w (FirstOut lo hi zs w) := by
  have K := fun x => pred_any x lo hi p q w hp hq
  clear hp hq
  have HC : Hid (∀ j, j < zs.length → w.cell? ⟨b, j, none⟩ = some (.int .i64 (zs.getD j 0))) := hc
  clear hc
  generalize hn : zs.length = n at *
  have HN : Hid (zs.length = n) := hn
  clear hn
  go_enter Tryz.func155, Tryz.ntmps155
  go_wp2
  go_loopg [5, 8] n (fun gg _ s8 wr => ∃ k : Nat, k ≤ n ∧ n - k ≤ gg ∧ s8 = .int .i64 k ∧ wr = w ∧ Aside (∀ j, j < k → outB lo hi (zs.getD j 0) = false))
  case atStart => exact ⟨0, Nat.zero_le _, by omega, rfl, rfl, fun j hj => absurd hj (Nat.not_lt_zero _)⟩
  case round =>
    obtain ⟨k, hk, hg, rfl, rfl, A⟩ := hrel
    by_cases hlt : k < n
    · have hltz : (k : Int) < (n : Int) := by omega
      have hcell := HC.out k hlt
      have hcall := K (zs.getD k 0)
      generalize hy : zs.getD k 0 = y at hcell hcall
      have B : Aside (zs.getD k 0 = y) := hy
      clear hy
      cases ho : outB lo hi y with
      | true =>
        rw [ho] at hcall
        have O : Aside (outB lo hi y = true) := ho
        clear ho
        go_wp2_with (go_at_call 145; refine (hcall).mono ?_; rintro e w' ⟨rfl, rfl⟩)
        go_ret
        refine ⟨rfl, _, rfl, ?_⟩
        rw [List.any_eq_true.mpr ⟨y, ?_, O.out⟩]
        · simp
        · have hl := HN.out
          have hb := B.out
          rw [← hb, List.getD_eq_getElem?_getD, List.getElem?_eq_getElem (by omega)]
          exact List.getElem_mem _
      | false =>
        rw [ho] at hcall
        have O : Aside (outB lo hi y = false) := ho
        clear ho
        go_wp2_with (go_at_call 145; refine (hcall).mono ?_; rintro e w' ⟨rfl, rfl⟩)
        go_roundg (n - (k + 1))
        case measure => omega
        case rel =>
          refine ⟨k + 1, by omega, by omega, by go_num, rfl, (show Aside _ from fun j hj => ?_)⟩
          by_cases e : j = k
          · subst e
            rw [B.out]; exact O.out
          · exact A.out j (by omega)
    · have hltz : ¬ (k : Int) < (n : Int) := by omega
      obtain rfl : k = n := by omega
      go_wp2
      go_ret
      refine ⟨rfl, _, rfl, ?_⟩
      rw [show zs.any (outB lo hi) = false from ?_]
      · simp
      · rw [List.any_eq_false]
        intro x hx
        obtain ⟨j, hj, rfl⟩ := List.getElem_of_mem hx
        have h := A.out j (by have := HN.out; omega)
        rw [List.getD_eq_getElem?_getD, List.getElem?_eq_getElem hj] at h
        simpa using h

theorem contains_any (lo hi : Int) (b : Nat) (zs : List Int) (c : Nat) (p q : Addr) (w : World) (hp : w.cell? p = some (.int .i64 lo)) (hq : w.cell? q = some (.int .i64 hi))
    (hz : zs.length ≤ 100) (hc : ∀ j, j < zs.length → w.cell? ⟨b, j, none⟩ = some (.int .i64 (zs.getD j 0))) :
    Calls Tryz.prog 146 #[.slice (some ⟨b, 0, none⟩) zs.length c, .func (.func 145) #[] #[.pointer (some p), .pointer (some q)]] w fun e w' => e = .returned (.bool (zs.any (outB lo hi))) ∧ w = w' := by
  have K := index_any lo hi b zs c p q w hp hq hz hc
  clear hp hq hc
  unfold FirstOut at K
  generalize zs.any (outB lo hi) = t at *
  generalize zs.length = n at *
  go_enter Tryz.func146, Tryz.ntmps146
  go_wp2_with (go_at_call 155; refine K.mono ?_; rintro e w' ⟨rfl, r, rfl, hr⟩; have HR : Hid (decide (0 ≤ r) = t) := hr; clear hr)
  go_ret
  exact ⟨ret_bool HR.out, rfl⟩

theorem within_any (lo hi : Int) (b : Nat) (zs : List Int) (n c : Nat) (w : World) (hz : zs.length ≤ 100) (hn : zs.length = n) (hb : b < w.heap.size) (hc : ∀ j, j < zs.length → w.cell? ⟨b, j, none⟩ = some (.int .i64 (zs.getD j 0))) :
    Calls Tryz.prog 131 #[.int .i64 lo, .int .i64 hi, .slice (some ⟨b, 0, none⟩) n c] w fun e w' => e = .returned (.bool (!(zs.any (outB lo hi)))) ∧ Below w.heap.size w w' := by
  subst hn
  have b0 : Hid (Below w.heap.size w ((w.alloc (.cells #[.int .i64 lo] 3)).alloc (.cells #[.int .i64 hi] 3))) := ((Below.refl _ _).alloc (Nat.le_refl _) _).alloc (by simp) _
  have K := contains_any lo hi b zs c ⟨w.heap.size, 0, none⟩ ⟨w.heap.size + 1, 0, none⟩ ((w.alloc (.cells #[.int .i64 lo] 3)).alloc (.cells #[.int .i64 hi] 3)) (by go_simp) (by go_simp) hz
    (fun j hj => by rw [b0.out.cell (p := ⟨b, j, none⟩) hb]; exact hc j hj)
  clear hc
  generalize zs.any (outB lo hi) = t at *
  generalize zs.length = n at *
  go_enter Tryz.func131, Tryz.ntmps131
  go_wp2_with (go_at_call 146; (with_reducible refine K.mono ?_); rintro e w' ⟨rfl, rfl⟩)
  go_ret
  exact ⟨rfl, b0.out⟩

/-- One number, two, three. -/
theorem within1 (lo hi x : Int) (b c : Nat) (w : World) (hb : b < w.heap.size) (h0 : w.cell? ⟨b, 0, none⟩ = some (.int .i64 x)) :
    Calls Tryz.prog 131 #[.int .i64 lo, .int .i64 hi, .slice (some ⟨b, 0, none⟩) 1 c] w fun e w' => e = .returned (.bool (!(outB lo hi x))) ∧ Below w.heap.size w w' := by
  have h := within_any lo hi b [x] 1 c w (by simp) rfl hb (fun j hj => by
    have : j < 1 := hj
    obtain rfl : j = 0 := by omega
    exact h0)
  simpa using h
theorem within2 (lo hi x y : Int) (b c : Nat) (w : World) (hb : b < w.heap.size) (h0 : w.cell? ⟨b, 0, none⟩ = some (.int .i64 x)) (h1 : w.cell? ⟨b, 1, none⟩ = some (.int .i64 y)) :
    Calls Tryz.prog 131 #[.int .i64 lo, .int .i64 hi, .slice (some ⟨b, 0, none⟩) 2 c] w fun e w' => e = .returned (.bool (!(outB lo hi x || outB lo hi y))) ∧ Below w.heap.size w w' := by
  have h := within_any lo hi b [x, y] 2 c w (by simp) rfl hb (fun j hj => by
    have : j < 2 := hj
    rcases (by omega : j = 0 ∨ j = 1) with rfl | rfl
    · exact h0
    · exact h1)
  simpa using h
theorem within3 (lo hi x y z : Int) (b c : Nat) (w : World) (hb : b < w.heap.size) (h0 : w.cell? ⟨b, 0, none⟩ = some (.int .i64 x)) (h1 : w.cell? ⟨b, 1, none⟩ = some (.int .i64 y)) (h2 : w.cell? ⟨b, 2, none⟩ = some (.int .i64 z)) :
    Calls Tryz.prog 131 #[.int .i64 lo, .int .i64 hi, .slice (some ⟨b, 0, none⟩) 3 c] w fun e w' => e = .returned (.bool (!(outB lo hi x || outB lo hi y || outB lo hi z))) ∧ Below w.heap.size w w' := by
  have h := within_any lo hi b [x, y, z] 3 c w (by simp) rfl hb (fun j hj => by
    have : j < 3 := hj
    rcases (by omega : j = 0 ∨ j = 1 ∨ j = 2) with rfl | rfl | rfl
    · exact h0
    · exact h1
    · exact h2)
  simpa [Bool.or_assoc] using h
end Go.Proofs.YtmmegmonmilkcaaGreatDoor.G

namespace Go.Proofs.YtmmegmonmilkcaaGreatDoor.G
open Go.RowKit

/-- Block number w.heap.size holds the config; what lay below it lies. -/
def At (w : World) (c : Cf) (v : World) : Prop := Below (w.heap.size + 1) (w.alloc (.cells (cfc c) 23)) v
theorem At.start (w : World) (c : Cf) : At w c (w.alloc (.cells (cfc c) 23)) := Below.refl _ _
theorem At.cell {w v : World} {c : Cf} (h : At w c v) (j : Nat) : v.cell? ⟨w.heap.size, j, none⟩ = (cfc c)[j]? := by
  rw [Below.cell h (p := ⟨w.heap.size, j, none⟩) (by simp), World.cell?_alloc_at _ _ _ _ rfl]
theorem At.size {w v : World} {c : Cf} (h : At w c v) : w.heap.size + 1 ≤ v.heap.size := by
  have := Below.size h
  simpa using this
theorem At.trans {w v v' : World} {c : Cf} (h : At w c v) (hb : Below v.heap.size v v') : At w c v' := Below.trans h (hb.mono h.size)
theorem At.alloc {w v : World} {c : Cf} (h : At w c v) (o : Obj) : At w c (v.alloc o) := Below.alloc h h.size o
theorem At.below {w v : World} {c : Cf} (h : At w c v) : Below w.heap.size w v :=
  ((Below.refl _ _).alloc (Nat.le_refl _) _).trans (Below.mono h (by omega))
/-- All nine. -/
theorem At.cells {w v : World} {c : Cf} (h : At w c v) :
    v.cell? ⟨w.heap.size, 0, none⟩ = some (.int .i64 c.w) ∧ v.cell? ⟨w.heap.size, 1, none⟩ = some (.int .i64 c.h) ∧ v.cell? ⟨w.heap.size, 2, none⟩ = some (.int .i64 c.l) ∧
    v.cell? ⟨w.heap.size, 3, none⟩ = some (.int .i64 c.d) ∧ v.cell? ⟨w.heap.size, 4, none⟩ = some (.int .i64 c.r) ∧ v.cell? ⟨w.heap.size, 5, none⟩ = some (.int .i64 c.i) ∧
    v.cell? ⟨w.heap.size, 6, none⟩ = some (.int .i64 c.b) ∧ v.cell? ⟨w.heap.size, 7, none⟩ = some (.bool c.we) ∧ v.cell? ⟨w.heap.size, 8, none⟩ = some (.bool c.ca) :=
  ⟨h.cell 0, h.cell 1, h.cell 2, h.cell 3, h.cell 4, h.cell 5, h.cell 6, h.cell 7, h.cell 8⟩

def t1 (c : Cf) : Bool := outB 1 64 c.w || outB 1 64 c.h
def t2 (c : Cf) : Bool := outB (if c.ca then 2 else 1) 8 c.l
def t3 (c : Cf) : Bool := outB 1 64 c.d || outB 1 64 c.r || outB 1 64 c.i
def t4 (c : Cf) : Bool := outB 1 16 c.b
/-- What Check tells. -/
def chk (c : Cf) : Int := if t1 c = true then 4 else if t2 c = true then 10 else if t3 c = true then 10 else if t4 c = true then 10 else 0

set_option maxHeartbeats 1000000 in
theorem check_any (c : Cf) (w : World) : Calls Tryz.prog 107 #[cfv c] w fun e w' => e = .returned (.int .i64 (chk c)) ∧ Below w.heap.size w w' := by
  have K1 := within2 1 64 c.w c.h
  have K2 := within1 (if c.ca then 2 else 1) 8 c.l
  have K3 := within3 1 64 c.d c.r c.i
  have K4 := within1 1 16 c.b
  unfold chk
  change ∀ b cc w, _ → _ → _ → Calls _ _ _ _ (fun e w' => e = .returned (.bool (!(t1 c))) ∧ _) at K1
  change ∀ b cc w, _ → _ → Calls _ _ _ _ (fun e w' => e = .returned (.bool (!(t2 c))) ∧ _) at K2
  change ∀ b cc w, _ → _ → _ → _ → Calls _ _ _ _ (fun e w' => e = .returned (.bool (!(t3 c))) ∧ _) at K3
  change ∀ b cc w, _ → _ → Calls _ _ _ _ (fun e w' => e = .returned (.bool (!(t4 c))) ∧ _) at K4
  generalize t1 c = T1 at *
  generalize t2 c = T2 at *
  generalize t3 c = T3 at *
  generalize t4 c = T4 at *
  have A0 : Hid (At w c (w.alloc (.cells (cfc c) 23))) := At.start w c
  have sz : Hid ((w.alloc (.cells (cfc c) 23)).heap.size = w.heap.size + 1) := by simp [Hid]
  obtain ⟨cw, ch, cl, cd, cr, ci, cb, we, ca⟩ := c
  simp only [cfv, cfc] at *
  cases ca
  all_goals
    simp only [if_true, if_false, Bool.false_eq_true] at K2
    go_enter Tryz.func107, Tryz.ntmps107
    go_wp2_with fail
    go_at_call 131
    refine (K1 _ _ _ (by simp) (by go_simp) (by go_simp)).mono ?_
    rintro e v1 ⟨rfl, hb⟩
    have A1 := (A0.out.alloc _).trans hb
    clear hb K1
    obtain ⟨-, -, x2, x3, x4, x5, x6, -, -⟩ := A1.cells
    have Z1 : w.heap.size < v1.heap.size := by have := A1.size; omega
    have HA1 : Hid (At w _ v1) := A1
    clear A1
    cases T1 with
    | true =>
      go_wp2
      go_ret
      exact ⟨rfl, HA1.out.below⟩
    | false =>
      go_wp2_with fail
      go_at_call 131
      refine (K2 _ _ _ (by simp) (by go_simp)).mono ?_
      rintro e v2 ⟨rfl, hb⟩
      clear x2 x3 x4 x5 x6 Z1 K2
      have A2 := (HA1.out.alloc _).trans hb
      clear hb
      obtain ⟨-, -, -, x3, x4, x5, x6, -, -⟩ := A2.cells
      have Z2 : w.heap.size < v2.heap.size := by have := A2.size; omega
      have HA2 : Hid (At w _ v2) := A2
      clear A2 HA1
      cases T2 with
      | true =>
        go_wp2
        go_ret
        exact ⟨rfl, HA2.out.below⟩
      | false =>
        go_wp2_with fail
        go_at_call 131
        refine (K3 _ _ _ (by simp) (by go_simp) (by go_simp) (by go_simp)).mono ?_
        rintro e v3 ⟨rfl, hb⟩
        clear x3 x4 x5 x6 Z2 K3
        have A3 := (HA2.out.alloc _).trans hb
        clear hb
        obtain ⟨-, -, -, -, -, -, x6, -, -⟩ := A3.cells
        have Z3 : w.heap.size < v3.heap.size := by have := A3.size; omega
        have HA3 : Hid (At w _ v3) := A3
        clear A3 HA2
        cases T3 with
        | true =>
          go_wp2
          go_ret
          exact ⟨rfl, HA3.out.below⟩
        | false =>
          go_wp2_with fail
          go_at_call 131
          refine (K4 _ _ _ (by simp) (by go_simp)).mono ?_
          rintro e v4 ⟨rfl, hb⟩
          clear x6 Z3 K4
          have A4 := (HA3.out.alloc _).trans hb
          have HA4 : Hid (At w _ v4) := A4
          clear A4 HA3 hb
          cases T4 with
          | true =>
            go_wp2
            go_ret
            exact ⟨rfl, HA4.out.below⟩
          | false =>
            go_wp2
            go_ret
            exact ⟨rfl, HA4.out.below⟩

/-- The document's 'within'. -/
theorem rwithin_any (n lo hi : Int) (w : World) : Calls Tryz.prog 106 #[.int .i64 n, .int .i64 lo, .int .i64 hi] w fun e w' => e = .returned (.bool (!(outB lo hi n))) ∧ w = w' := by
  by_cases h1 : lo ≤ n
  · have h1' : ¬ n < lo := by omega
    by_cases h2 : n ≤ hi
    · have h2' : ¬ hi < n := by omega
      have e : outB lo hi n = false := by unfold outB; simp [h1', h2']
      rw [e]
      clear e
      go_enter Tryz.func106, Tryz.ntmps106
      go_wp2
      go_ret
      exact ⟨rfl, rfl⟩
    · have h2' : hi < n := by omega
      have e : outB lo hi n = true := by unfold outB; simp [h2']
      rw [e]
      clear e
      go_enter Tryz.func106, Tryz.ntmps106
      go_wp2
      go_ret
      exact ⟨rfl, rfl⟩
  · have h1' : n < lo := by omega
    have e : outB lo hi n = true := by unfold outB; simp [h1']
    rw [e]
    clear e
    go_enter Tryz.func106, Tryz.ntmps106
    go_wp2
    go_ret
    exact ⟨rfl, rfl⟩
end Go.Proofs.YtmmegmonmilkcaaGreatDoor.G

namespace Go.Proofs.YtmmegmonmilkcaaGreatDoor.G
open Go.RowKit

theorem box_cells (w : World) (c : Cf) : (w.alloc (.cells (cfc c) 23)).cell? ⟨w.heap.size, 0, none⟩ = some (.int .i64 c.w) := (At.start w c).cell 0

def u2 (c : Cf) : Bool := outB 1 8 c.l
def u3 (c : Cf) : Bool := c.ca && decide (c.l < 2)
theorem t2_eq (c : Cf) : t2 c = (u2 c || u3 c) := by
  unfold t2 u2 u3 outB
  cases c.ca
  · simp
  · rw [Bool.eq_iff_iff]
    simp only [if_true, Bool.or_eq_true, decide_eq_true_eq, Bool.true_and]
    omega

set_option maxHeartbeats 1000000 in
theorem rcheck_any (c : Cf) (w : World) : Calls Tryz.prog 78 #[cfv c] w fun e w' => e = .returned (.int .i64 (chk c)) ∧ Below w.heap.size w w' := by
  have A0 : Hid (Below w.heap.size w (w.alloc (.cells (cfc c) 23))) := (At.start w c).below
  have K := rwithin_any
  have D : chk c = if (outB 1 64 c.w || outB 1 64 c.h) = true then 4 else if (outB 1 8 c.l || (c.ca && decide (c.l < 2)) || outB 1 64 c.d || outB 1 64 c.r || outB 1 64 c.i || outB 1 16 c.b) = true then 10 else 0 := by
    unfold chk
    rw [t2_eq]
    unfold t1 u2 u3 t3 t4
    generalize outB 1 8 c.l = a
    generalize (c.ca && decide (c.l < 2)) = b
    generalize outB 1 64 c.d = x
    generalize outB 1 64 c.r = y
    generalize outB 1 64 c.i = z
    generalize outB 1 16 c.b = u
    cases a <;> cases b <;> cases x <;> cases y <;> cases z <;> cases u <;> rfl
  rw [D]
  clear D
  have Kw := fun w => K c.w 1 64 w
  have Kh := fun w => K c.h 1 64 w
  have Kl := fun w => K c.l 1 8 w
  have Kd := fun w => K c.d 1 64 w
  have Kr := fun w => K c.r 1 64 w
  have Ki := fun w => K c.i 1 64 w
  have Kb := fun w => K c.b 1 16 w
  clear K
  generalize outB 1 64 c.w = Bw at *
  generalize outB 1 64 c.h = Bh at *
  generalize outB 1 8 c.l = Bl at *
  generalize outB 1 64 c.d = Bd at *
  generalize outB 1 64 c.r = Br at *
  generalize outB 1 64 c.i = Bi at *
  generalize outB 1 16 c.b = Bb at *
  obtain ⟨cw, ch, cl, cd, cr, ci, cb, we, ca⟩ := c
  simp only [cfv, cfc] at *
  obtain ⟨R, hR⟩ : ∃ R : Int, R = (if (Bw || Bh) = true then 4 else if (Bl || (ca && decide (cl < 2)) || Bd || Br || Bi || Bb) = true then 10 else 0) := ⟨_, rfl⟩
  rw [← hR]
  have HR : Hid (R = (if (Bw || Bh) = true then 4 else if (Bl || (ca && decide (cl < 2)) || Bd || Br || Bi || Bb) = true then 10 else 0)) := hR
  clear hR
  cases Bw with
  | true =>
    go_enter Tryz.func78, Tryz.ntmps78
    go_wp2_with (go_at_call 106; (with_reducible refine (Kw _).mono ?_); rintro e w' ⟨rfl, rfl⟩)
    go_ret
    exact ⟨ret_int (by have h := HR.out; simp at h; exact h.symm), A0.out⟩
  | false =>
    cases Bh with
    | true =>
      go_enter Tryz.func78, Tryz.ntmps78
      go_wp2_with fail
      go_at_call 106
      refine (Kw _).mono ?_
      rintro e w' ⟨rfl, rfl⟩
      go_wp2_with fail
      go_at_call 106
      refine (Kh _).mono ?_
      rintro e w' ⟨rfl, rfl⟩
      go_wp2
      go_ret
      exact ⟨ret_int (by have h := HR.out; simp at h; exact h.symm), A0.out⟩
    | false =>
      go_enter Tryz.func78, Tryz.ntmps78
      go_wp2_with fail
      go_at_call 106
      refine (Kw _).mono ?_
      rintro e w' ⟨rfl, rfl⟩
      go_wp2_with fail
      go_at_call 106
      refine (Kh _).mono ?_
      rintro e w' ⟨rfl, rfl⟩
      go_wp2_with fail
      go_at_call 106
      refine (Kl _).mono ?_
      rintro e w' ⟨rfl, rfl⟩
      cases Bl with
      | true =>
        go_wp2
        go_ret
        exact ⟨ret_int (by have h := HR.out; simp at h; exact h.symm), A0.out⟩
      | false =>
        cases ca with
        | true =>
          by_cases h2 : cl < 2
          · have hd : decide (cl < 2) = true := by simpa using h2
            go_wp2
            go_ret
            exact ⟨ret_int (by have h := HR.out; simp [hd] at h; exact h.symm), A0.out⟩
          · have hd : decide (cl < 2) = false := by simpa using h2
            go_wp2_with fail
            go_at_call 106
            refine (Kd _).mono ?_
            rintro e w' ⟨rfl, rfl⟩
            cases Bd with
            | true =>
              go_wp2
              go_ret
              exact ⟨ret_int (by have h := HR.out; simp [hd] at h; exact h.symm), A0.out⟩
            | false =>
              go_wp2_with fail
              go_at_call 106
              refine (Kr _).mono ?_
              rintro e w' ⟨rfl, rfl⟩
              cases Br with
              | true =>
                go_wp2
                go_ret
                exact ⟨ret_int (by have h := HR.out; simp [hd] at h; exact h.symm), A0.out⟩
              | false =>
                go_wp2_with fail
                go_at_call 106
                refine (Ki _).mono ?_
                rintro e w' ⟨rfl, rfl⟩
                cases Bi with
                | true =>
                  go_wp2
                  go_ret
                  exact ⟨ret_int (by have h := HR.out; simp [hd] at h; exact h.symm), A0.out⟩
                | false =>
                  go_wp2_with fail
                  go_at_call 106
                  refine (Kb _).mono ?_
                  rintro e w' ⟨rfl, rfl⟩
                  cases Bb with
                  | true =>
                    go_wp2
                    go_ret
                    exact ⟨ret_int (by have h := HR.out; simp [hd] at h; exact h.symm), A0.out⟩
                  | false =>
                    go_wp2
                    go_ret
                    exact ⟨ret_int (by have h := HR.out; simp [hd] at h; exact h.symm), A0.out⟩
        | false =>
          go_wp2_with fail
          go_at_call 106
          refine (Kd _).mono ?_
          rintro e w' ⟨rfl, rfl⟩
          cases Bd with
          | true =>
            go_wp2
            go_ret
            exact ⟨ret_int (by have h := HR.out; simp at h; exact h.symm), A0.out⟩
          | false =>
            go_wp2_with fail
            go_at_call 106
            refine (Kr _).mono ?_
            rintro e w' ⟨rfl, rfl⟩
            cases Br with
            | true =>
              go_wp2
              go_ret
              exact ⟨ret_int (by have h := HR.out; simp at h; exact h.symm), A0.out⟩
            | false =>
              go_wp2_with fail
              go_at_call 106
              refine (Ki _).mono ?_
              rintro e w' ⟨rfl, rfl⟩
              cases Bi with
              | true =>
                go_wp2
                go_ret
                exact ⟨ret_int (by have h := HR.out; simp at h; exact h.symm), A0.out⟩
              | false =>
                go_wp2_with fail
                go_at_call 106
                refine (Kb _).mono ?_
                rintro e w' ⟨rfl, rfl⟩
                cases Bb with
                | true =>
                  go_wp2
                  go_ret
                  exact ⟨ret_int (by have h := HR.out; simp at h; exact h.symm), A0.out⟩
                | false =>
                  go_wp2
                  go_ret
                  exact ⟨ret_int (by have h := HR.out; simp at h; exact h.symm), A0.out⟩
end Go.Proofs.YtmmegmonmilkcaaGreatDoor.G

namespace Go.Proofs.YtmmegmonmilkcaaGreatDoor.G
open Go.RowKit

theorem outB_false {lo hi x : Int} (h : outB lo hi x = false) : lo ≤ x ∧ x ≤ hi := by
  unfold outB at h
  simp only [Bool.or_eq_false_iff, decide_eq_false_iff_not] at h
  omega

structure Fits (c : Cf) : Prop where
  w1 : 1 ≤ c.w
  w2 : c.w ≤ 64
  h1 : 1 ≤ c.h
  h2 : c.h ≤ 64
  l1 : 1 ≤ c.l
  l2 : c.l ≤ 8
  lc : c.ca = true → 2 ≤ c.l
  d1 : 1 ≤ c.d
  d2 : c.d ≤ 64
  r1 : 1 ≤ c.r
  r2 : c.r ≤ 64
  i1 : 1 ≤ c.i
  i2 : c.i ≤ 64
  b1 : 1 ≤ c.b
  b2 : c.b ≤ 16

theorem fits_of {c : Cf} (h : chk c = 0) : Fits c := by
  unfold chk at h
  cases e1 : t1 c with
  | true => simp [e1] at h
  | false =>
    cases e2 : t2 c with
    | true => simp [e1, e2] at h
    | false =>
      cases e3 : t3 c with
      | true => simp [e1, e2, e3] at h
      | false =>
        cases e4 : t4 c with
        | true => simp [e1, e2, e3, e4] at h
        | false =>
          unfold t1 at e1
          unfold t2 at e2
          unfold t3 at e3
          unfold t4 at e4
          simp only [Bool.or_eq_false_iff] at e1 e3
          have a := outB_false e1.1
          have b := outB_false e1.2
          have d := outB_false e2
          have x := outB_false e3.1.1
          have y := outB_false e3.1.2
          have z := outB_false e3.2
          have u := outB_false e4
          have d' : 1 ≤ c.l := by
            cases hc : c.ca <;> simp [hc] at d <;> omega
          exact ⟨a.1, a.2, b.1, b.2, d', d.2, (fun hc => by simp [hc] at d; omega), x.1, x.2, y.1, y.2, z.1, z.2, u.1, u.2⟩

/-- What a check tells is one of three numbers. -/
theorem chk_cases (c : Cf) : chk c = 0 ∨ chk c = 4 ∨ chk c = 10 := by
  unfold chk
  cases t1 c <;> cases t2 c <;> cases t3 c <;> cases t4 c <;> simp

def nod (c : Cf) : Int := if chk c = 0 then c.w * c.h else 0

theorem mul_in {a b : Int} (h1 : 1 ≤ a) (h2 : a ≤ 64) (h3 : 1 ≤ b) (h4 : b ≤ 64) : 1 ≤ a * b ∧ a * b ≤ 4096 := by
  obtain ⟨x, rfl⟩ := Int.eq_ofNat_of_zero_le (by omega : 0 ≤ a)
  obtain ⟨y, rfl⟩ := Int.eq_ofNat_of_zero_le (by omega : 0 ≤ b)
  have g1 : x * y ≤ 64 * 64 := Nat.mul_le_mul (by omega) (by omega)
  have g2 : 1 * 1 ≤ x * y := Nat.mul_le_mul (by omega) (by omega)
  have e : ((x : Int) * (y : Int)) = ((x * y : Nat) : Int) := by simp
  rw [e]
  omega

theorem nodes_any (c : Cf) (w : World) : Calls Tryz.prog 80 #[cfv c] w fun e w' => e = .returned (.int .i64 (nod c)) ∧ Below w.heap.size w w' := by
  have K := check_any c
  have F := fun h => @fits_of c h
  have A0 : Hid (At w c (w.alloc (.cells (cfc c) 23))) := At.start w c
  unfold nod
  rcases chk_cases c with h | h | h
  · have f := F h
    have hm := mul_in f.w1 f.w2 f.h1 f.h2
    rw [if_pos h]
    rw [h] at K
    clear F h f
    obtain ⟨cw, ch, cl, cd, cr, ci, cb, we, ca⟩ := c
    simp only [cfv, cfc] at *
    obtain ⟨M, hM⟩ : ∃ M : Int, M = cw * ch := ⟨_, rfl⟩
    have HM : Hid (M = cw * ch) := hM
    rw [← hM] at hm ⊢
    obtain ⟨m1, m2⟩ := hm
    clear hM
    go_enter Tryz.func80, Tryz.ntmps80
    go_wp2_with fail
    go_at_call 107
    refine (K _).mono ?_
    rintro e v1 ⟨rfl, hb⟩
    have A1 := A0.out.trans hb
    clear hb K
    obtain ⟨x0, x1, -, -, -, -, -, -, -⟩ := A1.cells
    have HA1 : Hid (At w _ v1) := A1
    clear A1
    go_wp2
    go_ret
    exact ⟨ret_int (by rw [← HM.out]; exact IntWalk.wrap64_in _ (by omega)), HA1.out.below⟩
  all_goals
    have h0 : ¬ chk c = 0 := by rw [h]; decide
    rw [if_neg h0]
    rw [h] at K
    clear F h h0
    obtain ⟨cw, ch, cl, cd, cr, ci, cb, we, ca⟩ := c
    simp only [cfv, cfc] at *
    go_enter Tryz.func80, Tryz.ntmps80
    go_wp2_with fail
    go_at_call 107
    refine (K _).mono ?_
    rintro e v1 ⟨rfl, hb⟩
    have HA1 : Hid (At w _ v1) := A0.out.trans hb
    clear hb K
    go_wp2
    go_ret
    exact ⟨rfl, HA1.out.below⟩
theorem rnodes_any (c : Cf) (w : World) : Calls Tryz.prog 38 #[cfv c] w fun e w' => e = .returned (.int .i64 (nod c)) ∧ Below w.heap.size w w' := by
  have K := rcheck_any c
  have F := fun h => @fits_of c h
  have A0 : Hid (At w c (w.alloc (.cells (cfc c) 23))) := At.start w c
  unfold nod
  rcases chk_cases c with h | h | h
  · have f := F h
    have hm := mul_in f.w1 f.w2 f.h1 f.h2
    rw [if_pos h]
    rw [h] at K
    clear F h f
    obtain ⟨cw, ch, cl, cd, cr, ci, cb, we, ca⟩ := c
    simp only [cfv, cfc] at *
    obtain ⟨M, hM⟩ : ∃ M : Int, M = cw * ch := ⟨_, rfl⟩
    have HM : Hid (M = cw * ch) := hM
    rw [← hM] at hm ⊢
    obtain ⟨m1, m2⟩ := hm
    clear hM
    go_enter Tryz.func38, Tryz.ntmps38
    go_wp2_with fail
    go_at_call 78
    refine (K _).mono ?_
    rintro e v1 ⟨rfl, hb⟩
    have A1 := A0.out.trans hb
    clear hb K
    obtain ⟨x0, x1, -, -, -, -, -, -, -⟩ := A1.cells
    have HA1 : Hid (At w _ v1) := A1
    clear A1
    go_wp2
    go_ret
    exact ⟨ret_int (by rw [← HM.out]; exact IntWalk.wrap64_in _ (by omega)), HA1.out.below⟩
  all_goals
    have h0 : ¬ chk c = 0 := by rw [h]; decide
    rw [if_neg h0]
    rw [h] at K
    clear F h h0
    obtain ⟨cw, ch, cl, cd, cr, ci, cb, we, ca⟩ := c
    simp only [cfv, cfc] at *
    go_enter Tryz.func38, Tryz.ntmps38
    go_wp2_with fail
    go_at_call 78
    refine (K _).mono ?_
    rintro e v1 ⟨rfl, hb⟩
    have HA1 : Hid (At w _ v1) := A0.out.trans hb
    clear hb K
    go_wp2
    go_ret
    exact ⟨rfl, HA1.out.below⟩
end Go.Proofs.YtmmegmonmilkcaaGreatDoor.G

namespace Go.Proofs.YtmmegmonmilkcaaGreatDoor.G
open Go.RowKit

/-- The first lane of a class, and how many it has. -/
def cla (c : Cf) (k : Bool) : Int × Int := if chk c = 0 then (if c.ca = true then (if k = true then (c.l - 1, 1) else (0, c.l - 1)) else (if k = true then (0, 0) else (0, c.l))) else (0, 0)

theorem class_any (c : Cf) (k : Bool) (w : World) : Calls Tryz.prog 98 #[cfv c, .bool k] w fun e w' => e = .returned (.tuple #[.int .i64 (cla c k).1, .int .i64 (cla c k).2]) ∧ Below w.heap.size w w' := by
  have K := check_any c
  have F := fun h => @fits_of c h
  have A0 : Hid (At w c (w.alloc (.cells (cfc c) 23))) := At.start w c
  unfold cla
  rcases chk_cases c with h | h | h
  · have f := F h
    have l1 := f.l1
    have l2 := f.l2
    rw [if_pos h]
    rw [h] at K
    clear F h f
    obtain ⟨cw, ch, cl, cd, cr, ci, cb, we, ca⟩ := c
    simp only [cfv, cfc] at *
    cases ca <;> cases k
    all_goals
      go_enter Tryz.func98, Tryz.ntmps98
      go_wp2_with fail
      go_at_call 107
      refine (K _).mono ?_
      rintro e v1 ⟨rfl, hb⟩
      have A1 := A0.out.trans hb
      clear hb K
      obtain ⟨-, -, x2, -, -, -, -, -, x8⟩ := A1.cells
      have HA1 : Hid (At w _ v1) := A1
      have BB : Hid (∀ n, Below w.heap.size w (v1.drewN n)) := fun n => by
        have h := A1.below
        exact ⟨h.os, h.tape, h.output, h.size, h.block⟩
      clear A1
      go_wp2
      try go_quiet (fail)
      try go_wp2
      go_ret2
      exact ⟨rfl, by first | exact HA1.out.below | exact BB.out _ | exact BB.out 1⟩
  all_goals
    have h0 : ¬ chk c = 0 := by rw [h]; decide
    rw [if_neg h0]
    rw [h] at K
    clear F h h0
    obtain ⟨cw, ch, cl, cd, cr, ci, cb, we, ca⟩ := c
    simp only [cfv, cfc] at *
    go_enter Tryz.func98, Tryz.ntmps98
    go_wp2_with fail
    go_at_call 107
    refine (K _).mono ?_
    rintro e v1 ⟨rfl, hb⟩
    have HA1 : Hid (At w _ v1) := A0.out.trans hb
    clear hb K
    go_wp2
    go_ret2
    exact ⟨rfl, HA1.out.below⟩

theorem rclass_any (c : Cf) (k : Bool) (w : World) : Calls Tryz.prog 56 #[cfv c, .bool k] w fun e w' => e = .returned (.tuple #[.int .i64 (cla c k).1, .int .i64 (cla c k).2]) ∧ Below w.heap.size w w' := by
  have K := rcheck_any c
  have F := fun h => @fits_of c h
  have A0 : Hid (At w c (w.alloc (.cells (cfc c) 23))) := At.start w c
  unfold cla
  rcases chk_cases c with h | h | h
  · have f := F h
    have l1 := f.l1
    have l2 := f.l2
    rw [if_pos h]
    rw [h] at K
    clear F h f
    obtain ⟨cw, ch, cl, cd, cr, ci, cb, we, ca⟩ := c
    simp only [cfv, cfc] at *
    cases ca <;> cases k
    all_goals
      go_enter Tryz.func56, Tryz.ntmps56
      go_wp2_with fail
      go_at_call 78
      refine (K _).mono ?_
      rintro e v1 ⟨rfl, hb⟩
      have A1 := A0.out.trans hb
      clear hb K
      obtain ⟨-, -, x2, -, -, -, -, -, x8⟩ := A1.cells
      have HA1 : Hid (At w _ v1) := A1
      have BB : Hid (∀ n, Below w.heap.size w (v1.drewN n)) := fun n => by
        have h := A1.below
        exact ⟨h.os, h.tape, h.output, h.size, h.block⟩
      clear A1
      go_wp2
      try go_quiet (fail)
      try go_wp2
      go_ret2
      exact ⟨rfl, by first | exact HA1.out.below | exact BB.out _ | exact BB.out 1⟩
  all_goals
    have h0 : ¬ chk c = 0 := by rw [h]; decide
    rw [if_neg h0]
    rw [h] at K
    clear F h h0
    obtain ⟨cw, ch, cl, cd, cr, ci, cb, we, ca⟩ := c
    simp only [cfv, cfc] at *
    go_enter Tryz.func56, Tryz.ntmps56
    go_wp2_with fail
    go_at_call 78
    refine (K _).mono ?_
    rintro e v1 ⟨rfl, hb⟩
    have HA1 : Hid (At w _ v1) := A0.out.trans hb
    clear hb K
    go_wp2
    go_ret2
    exact ⟨rfl, HA1.out.below⟩
end Go.Proofs.YtmmegmonmilkcaaGreatDoor.G

namespace Go.Proofs.YtmmegmonmilkcaaGreatDoor.G

/-- There is such a node. -/
def isN (c : Cf) (n : Int) : Bool := decide (0 ≤ n) && decide (n < nod c)
/-- Its place, and what the call says of it. -/
def plx (c : Cf) (n : Int) : Int := if isN c n = true then n % c.w else 0
def ply (c : Cf) (n : Int) : Int := if isN c n = true then n / c.w else 0
def ple (c : Cf) (n : Int) : Int := if isN c n = true then 0 else 5
/-- There is such a place, its node, and what the call says of it. -/
def inP (c : Cf) (x y : Int) : Bool := decide (chk c = 0) && ((decide (0 ≤ x) && decide (x < c.w)) && (decide (0 ≤ y) && decide (y < c.h)))
def atn (c : Cf) (x y : Int) : Int := if inP c x y = true then y * c.w + x else 0
def ate (c : Cf) (x y : Int) : Int := if inP c x y = true then 0 else 5
/-- A port's step. -/
def dx (p : Int) : Int := if p = 1 then 1 else if p = 2 then -1 else 0
def dy (p : Int) : Int := if p = 3 then 1 else if p = 4 then -1 else 0
def isP (p : Int) : Bool := decide (0 ≤ p) && decide (p < 5)
/-- Whether there is a node to which the port leads, and which. -/
def bsB (c : Cf) (n p : Int) : Bool := isN c n && (isP p && inP c (plx c n + dx p) (ply c n + dy p))
def bsN (c : Cf) (n p : Int) : Int := if bsB c n p = true then (ply c n + dy p) * c.w + (plx c n + dx p) else 0
/-- The port that leads back. -/
def bck (p : Int) : Int := if p = 0 then 0 else if p = 1 then 2 else if p = 2 then 1 else if p = 3 then 4 else if p = 4 then 3 else -1
/-- How far two numbers are apart. -/
def btw (a b : Int) : Int := if a ≤ b then b - a else a - b
def fr (c : Cf) (a b : Int) : Int := if (isN c a && isN c b) = true then btw (plx c a) (plx c b) + btw (ply c a) (ply c b) else -1
/-- The ports below k that lead from a node to another one. -/
def prtK (c : Cf) (n : Int) (k : Nat) : List Int := ((List.range k).map fun (i : Nat) => (i : Int)).filter fun p => decide (p ≠ 0) && bsB c n p
def prt (c : Cf) (n : Int) : List Int := prtK c n 5
/-- The channels of the nodes below k. -/
def lksK (c : Cf) (k : Nat) : List (Int × Int) := (List.range k).flatMap fun (i : Nat) => (prt c (i : Int)).map fun p => ((i : Int), p)
def lks (c : Cf) : List (Int × Int) := lksK c (nod c).toNat

theorem nod_of {c : Cf} (h : chk c = 0) : nod c = c.w * c.h := by unfold nod; rw [if_pos h]
theorem nod_not {c : Cf} (h : chk c ≠ 0) : nod c = 0 := by unfold nod; rw [if_neg h]
theorem nod_in (c : Cf) : 0 ≤ nod c ∧ nod c ≤ 4096 := by
  by_cases h : chk c = 0
  · have f := fits_of h
    have := mul_in f.w1 f.w2 f.h1 f.h2
    rw [nod_of h]
    omega
  · rw [nod_not h]; omega
theorem isN_ok {c : Cf} {n : Int} (h : isN c n = true) : chk c = 0 ∧ 0 ≤ n ∧ n < c.w * c.h := by
  unfold isN at h
  simp only [Bool.and_eq_true, decide_eq_true_eq] at h
  by_cases hc : chk c = 0
  · rw [nod_of hc] at h
    exact ⟨hc, h.1, h.2⟩
  · rw [nod_not hc] at h
    omega
theorem isN_mk {c : Cf} {n : Int} (h : chk c = 0) (h0 : 0 ≤ n) (h1 : n < c.w * c.h) : isN c n = true := by
  unfold isN
  rw [nod_of h]
  simp [h0, h1]
theorem isN_lt {c : Cf} {n : Int} (h : isN c n = true) : 0 ≤ n ∧ n < 4096 := by
  unfold isN at h
  simp only [Bool.and_eq_true, decide_eq_true_eq] at h
  have := nod_in c
  omega

theorem place_of {c : Cf} {n : Int} (h : isN c n = true) : chk c = 0 ∧ 0 ≤ plx c n ∧ plx c n < c.w ∧ 0 ≤ ply c n ∧ ply c n < c.h ∧ ply c n * c.w + plx c n = n := by
  obtain ⟨hc, h0, h1⟩ := isN_ok h
  have f := fits_of hc
  have hw : 0 < c.w := by have := f.w1; omega
  unfold plx ply
  rw [if_pos h, if_pos h]
  refine ⟨hc, Int.emod_nonneg _ (by omega), Int.emod_lt_of_pos _ hw, Int.ediv_nonneg h0 (by omega), ?_, ?_⟩
  · exact Int.ediv_lt_of_lt_mul hw (by rw [Int.mul_comm]; exact h1)
  · have := Int.mul_ediv_add_emod n c.w
    rw [Int.mul_comm] at this
    exact this
theorem plx_in (c : Cf) (n : Int) : 0 ≤ plx c n ∧ plx c n ≤ 63 := by
  cases h : isN c n with
  | true =>
    obtain ⟨hc, a, b, _⟩ := place_of h
    have := (fits_of hc).w2
    omega
  | false => unfold plx; rw [h]; simp
theorem ply_in (c : Cf) (n : Int) : 0 ≤ ply c n ∧ ply c n ≤ 63 := by
  cases h : isN c n with
  | true =>
    obtain ⟨hc, _, _, a, b, _⟩ := place_of h
    have := (fits_of hc).h2
    omega
  | false => unfold ply; rw [h]; simp
theorem inP_ok {c : Cf} {x y : Int} (h : inP c x y = true) : chk c = 0 ∧ 0 ≤ x ∧ x < c.w ∧ 0 ≤ y ∧ y < c.h := by
  unfold inP at h
  simp only [Bool.and_eq_true, decide_eq_true_eq] at h
  exact ⟨h.1, h.2.1.1, h.2.1.2, h.2.2.1, h.2.2.2⟩
theorem inP_mk {c : Cf} {x y : Int} (h : chk c = 0) (h1 : 0 ≤ x) (h2 : x < c.w) (h3 : 0 ≤ y) (h4 : y < c.h) : inP c x y = true := by
  unfold inP
  simp [h, h1, h2, h3, h4]
theorem node_in {c : Cf} {x y : Int} (h : inP c x y = true) : 0 ≤ y * c.w ∧ y * c.w + x < c.w * c.h ∧ y * c.w ≤ 4096 ∧ c.w * c.h ≤ 4096 := by
  obtain ⟨hc, h1, h2, h3, h4⟩ := inP_ok h
  have f := fits_of hc
  have hw : 0 ≤ c.w := by have := f.w1; omega
  have a : 0 ≤ y * c.w := Int.mul_nonneg h3 hw
  have b : y * c.w ≤ (c.h - 1) * c.w := Int.mul_le_mul_of_nonneg_right (by omega) hw
  have e : (c.h - 1) * c.w = c.w * c.h - c.w := by rw [Int.sub_mul, Int.mul_comm]; omega
  have m := mul_in f.w1 f.w2 f.h1 f.h2
  have := f.w1
  omega
theorem node_of {c : Cf} {x y : Int} (h : inP c x y = true) : isN c (y * c.w + x) = true ∧ plx c (y * c.w + x) = x ∧ ply c (y * c.w + x) = y := by
  obtain ⟨hc, h1, h2, h3, h4⟩ := inP_ok h
  obtain ⟨a, b, _, _⟩ := node_in h
  have i : isN c (y * c.w + x) = true := isN_mk hc (by omega) b
  refine ⟨i, ?_, ?_⟩
  · unfold plx
    rw [if_pos i, Int.add_comm, Int.add_mul_emod_self_right]
    exact Int.emod_eq_of_lt h1 h2
  · unfold ply
    rw [if_pos i, Int.add_comm, Int.add_mul_ediv_right _ _ (by omega), Int.ediv_eq_zero_of_lt h1 h2]
    omega
theorem atn_in (c : Cf) (x y : Int) : 0 ≤ atn c x y ∧ atn c x y < 4096 := by
  unfold atn
  split
  · rename_i h
    obtain ⟨_, h1, _⟩ := inP_ok h
    have := node_in h
    omega
  · omega
theorem bsN_in (c : Cf) (n p : Int) : 0 ≤ bsN c n p ∧ bsN c n p < 4096 := by
  unfold bsN
  split
  · rename_i h
    unfold bsB at h
    simp only [Bool.and_eq_true] at h
    have a := (inP_ok h.2.2).2.1
    have := node_in h.2.2
    omega
  · omega
theorem isP_iff (p : Int) : isP p = true ↔ p = 0 ∨ p = 1 ∨ p = 2 ∨ p = 3 ∨ p = 4 := by
  unfold isP
  simp only [Bool.and_eq_true, decide_eq_true_eq]
  omega

/-- A step that is taken: its places. -/
theorem step_ok {c : Cf} {n p : Int} (h : bsB c n p = true) :
    isN c n = true ∧ isP p = true ∧ inP c (plx c n + dx p) (ply c n + dy p) = true ∧ isN c (bsN c n p) = true ∧ plx c (bsN c n p) = plx c n + dx p ∧ ply c (bsN c n p) = ply c n + dy p := by
  have h' := h
  unfold bsB at h
  simp only [Bool.and_eq_true] at h
  obtain ⟨a, b, d⟩ := h
  have e := node_of d
  unfold bsN
  rw [if_pos h']
  exact ⟨a, b, d, e⟩
theorem step_mk {c : Cf} {n p : Int} (h : isN c n = true) (hp : isP p = true) (h1 : 0 ≤ plx c n + dx p) (h2 : plx c n + dx p < c.w) (h3 : 0 ≤ ply c n + dy p) (h4 : ply c n + dy p < c.h) : bsB c n p = true := by
  unfold bsB
  rw [h, hp, inP_mk (place_of h).1 h1 h2 h3 h4]
  rfl
/-- Two nodes of one place are one. -/
theorem node_eq {c : Cf} {a b : Int} (ha : isN c a = true) (hb : isN c b = true) (hx : plx c a = plx c b) (hy : ply c a = ply c b) : a = b := by
  have ea := (place_of ha).2.2.2.2.2
  have eb := (place_of hb).2.2.2.2.2
  rw [← ea, ← eb, hx, hy]

theorem bck_back {p : Int} (h : isP p = true) : isP (bck p) = true ∧ dx (bck p) = - dx p ∧ dy (bck p) = - dy p ∧ bck (bck p) = p := by
  rcases (isP_iff p).1 h with rfl | rfl | rfl | rfl | rfl <;> decide
theorem dx_in (p : Int) : -1 ≤ dx p ∧ dx p ≤ 1 := by
  unfold dx
  repeat' split
  all_goals omega
theorem dy_in (p : Int) : -1 ≤ dy p ∧ dy p ≤ 1 := by
  unfold dy
  repeat' split
  all_goals omega

/-- P5.2: who is beside one has it beside. -/
theorem back_ok {c : Cf} {n p : Int} (h : bsB c n p = true) : bsB c (bsN c n p) (bck p) = true ∧ bsN c (bsN c n p) (bck p) = n := by
  obtain ⟨h1, h2, h3, h4, h5, h6⟩ := step_ok h
  obtain ⟨b1, b2, b3, _⟩ := bck_back h2
  obtain ⟨_, p1, p2, p3, p4, _⟩ := place_of h1
  have hb : bsB c (bsN c n p) (bck p) = true := step_mk h4 b1 (by omega) (by omega) (by omega) (by omega)
  obtain ⟨_, _, _, k4, k5, k6⟩ := step_ok hb
  exact ⟨hb, node_eq k4 h1 (by omega) (by omega)⟩

theorem btw_comm (a b : Int) : btw a b = btw b a := by unfold btw; split <;> split <;> omega
theorem fr_comm (c : Cf) (a b : Int) : fr c a b = fr c b a := by
  unfold fr
  rw [Bool.and_comm, btw_comm, btw_comm (ply c a)]
theorem fr_ok {c : Cf} {a b : Int} (ha : isN c a = true) (hb : isN c b = true) : fr c a b = btw (plx c a) (plx c b) + btw (ply c a) (ply c b) := by
  unfold fr; rw [ha, hb]; rfl
theorem fr_in (c : Cf) (a b : Int) : -1 ≤ fr c a b ∧ fr c a b ≤ 126 := by
  have a1 := plx_in c a
  have a2 := ply_in c a
  have b1 := plx_in c b
  have b2 := ply_in c b
  unfold fr btw
  split
  · split <;> split <;> omega
  · omega
theorem fr_nonneg {c : Cf} {a b : Int} (ha : isN c a = true) (hb : isN c b = true) : 0 ≤ fr c a b := by
  rw [fr_ok ha hb]; unfold btw; split <;> split <;> omega
theorem fr_zero {c : Cf} {a b : Int} (ha : isN c a = true) (hb : isN c b = true) : fr c a b = 0 ↔ a = b := by
  rw [fr_ok ha hb]
  constructor
  · intro h
    refine node_eq ha hb ?_ ?_ <;> (unfold btw at h; revert h; split <;> split <;> intro h <;> omega)
  · rintro rfl
    unfold btw; simp
theorem fr_tri {c : Cf} {a b k : Int} (ha : isN c a = true) (hb : isN c b = true) (hk : isN c k = true) : fr c a b ≤ fr c a k + fr c k b := by
  rw [fr_ok ha hb, fr_ok ha hk, fr_ok hk hb]
  have t : ∀ x y z : Int, btw x y ≤ btw x z + btw z y := fun x y z => by unfold btw; split <;> split <;> split <;> omega
  have := t (plx c a) (plx c b) (plx c k)
  have := t (ply c a) (ply c b) (ply c k)
  omega
/-- A step changes how far it is by one. -/
theorem fr_step {c : Cf} {a b p : Int} (h : bsB c a p = true) (hp : p ≠ 0) (hb : isN c b = true) : fr c (bsN c a p) b = fr c a b + 1 ∨ fr c (bsN c a p) b = fr c a b - 1 := by
  obtain ⟨h1, h2, h3, h4, h5, h6⟩ := step_ok h
  rw [fr_ok h4 hb, fr_ok h1 hb, h5, h6]
  have g1 : p = 1 ∨ p = 2 ∨ p = 3 ∨ p = 4 := by have := (isP_iff p).1 h2; omega
  rcases g1 with rfl | rfl | rfl | rfl
  · rw [show dx 1 = 1 from rfl, show dy 1 = 0 from rfl, Int.add_zero]; unfold btw; split <;> split <;> split <;> omega
  · rw [show dx 2 = -1 from rfl, show dy 2 = 0 from rfl, Int.add_zero]; unfold btw; split <;> split <;> split <;> omega
  · rw [show dx 3 = 0 from rfl, show dy 3 = 1 from rfl, Int.add_zero]; unfold btw; split <;> split <;> split <;> omega
  · rw [show dx 4 = 0 from rfl, show dy 4 = -1 from rfl, Int.add_zero]; unfold btw; split <;> split <;> split <;> omega
/-- Steps along one way and along the other may be taken in whatever row. -/
theorem cross {c : Cf} {n p q : Int} (h1 : bsB c n p = true) (h2 : bsB c n q = true) (hp : 1 ≤ p) (hq : 1 ≤ q) (ha : (decide (p < 3)) ≠ decide (q < 3)) :
    bsB c (bsN c n p) q = true ∧ bsB c (bsN c n q) p = true ∧ bsN c (bsN c n p) q = bsN c (bsN c n q) p ∧ fr c n (bsN c (bsN c n p) q) = 2 := by
  obtain ⟨a1, a2, a3, a4, a5, a6⟩ := step_ok h1
  obtain ⟨b1, b2, b3, b4, b5, b6⟩ := step_ok h2
  obtain ⟨_, i1, i2, i3, i4⟩ := inP_ok a3
  obtain ⟨_, j1, j2, j3, j4⟩ := inP_ok b3
  obtain ⟨_, n1, n2, n3, n4, _⟩ := place_of a1
  have g1 : p = 1 ∨ p = 2 ∨ p = 3 ∨ p = 4 := by have := (isP_iff p).1 a2; omega
  have g2 : q = 1 ∨ q = 2 ∨ q = 3 ∨ q = 4 := by have := (isP_iff q).1 b2; omega
  have d : (dx p = 0 ∧ (dx q = 1 ∨ dx q = -1) ∧ dy q = 0 ∧ (dy p = 1 ∨ dy p = -1)) ∨ (dx q = 0 ∧ (dx p = 1 ∨ dx p = -1) ∧ dy p = 0 ∧ (dy q = 1 ∨ dy q = -1)) := by
    rcases g1 with rfl | rfl | rfl | rfl <;> rcases g2 with rfl | rfl | rfl | rfl <;> first | exact absurd rfl ha | decide
  have x1 : bsB c (bsN c n p) q = true := step_mk a4 b2 (by omega) (by omega) (by omega) (by omega)
  have x2 : bsB c (bsN c n q) p = true := step_mk b4 a2 (by omega) (by omega) (by omega) (by omega)
  obtain ⟨_, _, _, k4, k5, k6⟩ := step_ok x1
  obtain ⟨_, _, _, l4, l5, l6⟩ := step_ok x2
  refine ⟨x1, x2, node_eq k4 l4 (by omega) (by omega), ?_⟩
  rw [fr_ok a1 k4]
  unfold btw
  split <;> split <;> omega

theorem prtK_succ (c : Cf) (n : Int) (k : Nat) : prtK c n (k + 1) = if (decide ((k : Int) ≠ 0) && bsB c n k) = true then prtK c n k ++ [(k : Int)] else prtK c n k := by
  unfold prtK
  rw [List.range_succ, List.map_append, List.filter_append]
  simp only [List.map_cons, List.map_nil, List.filter_cons, List.filter_nil]
  split <;> simp
theorem prtK_length (c : Cf) (n : Int) (k : Nat) : (prtK c n k).length ≤ k := by
  unfold prtK
  refine Nat.le_trans (List.length_filter_le _ _) ?_
  simp
theorem lksK_succ (c : Cf) (k : Nat) : lksK c (k + 1) = lksK c k ++ (prt c k).map fun p => ((k : Int), p) := by
  unfold lksK
  rw [List.range_succ, List.flatMap_append]
  simp
theorem lksK_length (c : Cf) (k : Nat) : (lksK c k).length ≤ k * 5 := by
  induction k with
  | zero => simp [lksK]
  | succ k ih =>
    rw [lksK_succ, List.length_append, List.length_map]
    have := prtK_length c k 5
    unfold prt
    omega
end Go.Proofs.YtmmegmonmilkcaaGreatDoor.G

namespace Go.Proofs.YtmmegmonmilkcaaGreatDoor.G
open Go.RowKit

/-- A draw changes nothing. -/
theorem At.drew {w v : World} {c : Cf} (h : At w c v) : At w c v.drew := by
  have b : Below (w.heap.size + 1) (w.alloc (.cells (cfc c) 23)) v := h
  exact ⟨b.os, b.tape, b.output, b.size, b.block⟩
theorem At.drewN {w v : World} {c : Cf} (h : At w c v) (n : Nat) : At w c (v.drewN n) := by
  have b : Below (w.heap.size + 1) (w.alloc (.cells (cfc c) 23)) v := h
  exact ⟨b.os, b.tape, b.output, b.size, b.block⟩

theorem isBelow_any (n l : Int) (w : World) : Calls Tryz.prog 79 #[.int .i64 n, .int .i64 l] w fun e w' => e = .returned (.bool (decide (0 ≤ n) && decide (n < l))) ∧ w = w' := by
  by_cases h0 : 0 ≤ n
  · by_cases h1 : n < l
    · rw [show (decide (0 ≤ n) && decide (n < l)) = true by simp [h0, h1]]
      go_enter Tryz.func79, Tryz.ntmps79
      go_wp2
      go_ret
      exact ⟨rfl, rfl⟩
    · rw [show (decide (0 ≤ n) && decide (n < l)) = false by simp [h1]]
      go_enter Tryz.func79, Tryz.ntmps79
      go_wp2
      go_ret
      exact ⟨rfl, rfl⟩
  · rw [show (decide (0 ≤ n) && decide (n < l)) = false by simp [h0]]
    go_enter Tryz.func79, Tryz.ntmps79
    go_wp2
    go_ret
    exact ⟨rfl, rfl⟩

theorem is_any (c : Cf) (n : Int) (w : World) : Calls Tryz.prog 39 #[cfv c, .int .i64 n] w fun e w' => e = .returned (.bool (isN c n)) ∧ Below w.heap.size w w' := by
  have K := nodes_any c
  have I := isBelow_any n (nod c)
  have A0 : Hid (At w c (w.alloc (.cells (cfc c) 23))) := At.start w c
  unfold isN
  generalize nod c = M at *
  generalize (decide (0 ≤ n) && decide (n < M)) = t at *
  obtain ⟨cw, ch, cl, cd, cr, ci, cb, we, ca⟩ := c
  simp only [cfv, cfc] at *
  go_enter Tryz.func39, Tryz.ntmps39
  go_wp2_with fail
  go_at_call 80
  refine (K _).mono ?_
  rintro e v1 ⟨rfl, hb⟩
  have HA1 : Hid (At w _ v1) := A0.out.trans hb
  clear hb K
  go_wp2_with fail
  go_at_call 79
  refine (I _).mono ?_
  rintro e v2 ⟨rfl, rfl⟩
  go_wp2
  go_ret
  exact ⟨rfl, HA1.out.below⟩

theorem place_any (c : Cf) (n : Int) (w : World) : Calls Tryz.prog 138 #[cfv c, .int .i64 n] w fun e w' => e = .returned (.tuple #[.int .i64 (plx c n), .int .i64 (ply c n), .int .i64 (ple c n)]) ∧ Below w.heap.size w w' := by
  have K := is_any c n
  have A0 : Hid (At w c (w.alloc (.cells (cfc c) 23))) := At.start w c
  cases h : isN c n with
  | true =>
    obtain ⟨hc, h0, h1⟩ := isN_ok h
    have f := fits_of hc
    have ex : (n.tmod c.w) = plx c n := by rw [Int.tmod_eq_emod_of_nonneg h0]; unfold plx; rw [if_pos h]
    have ey : (n.tdiv c.w) = ply c n := by rw [Int.tdiv_eq_ediv_of_nonneg h0]; unfold ply; rw [if_pos h]
    have ee : ple c n = 0 := by unfold ple; rw [if_pos h]
    have px := plx_in c n
    have py := ply_in c n
    have w1 := f.w1
    have w2 := f.w2
    have hn := (isN_lt h).2
    rw [ee]
    rw [h] at K
    generalize plx c n = X at *
    generalize ply c n = Y at *
    clear ee hc h1 f h
    obtain ⟨cw, ch, cl, cd, cr, ci, cb, we, ca⟩ := c
    simp only [cfv, cfc] at *
    go_enter Tryz.func138, Tryz.ntmps138
    go_wp2_with fail
    go_at_call 39
    refine (K _).mono ?_
    rintro e v1 ⟨rfl, hb⟩
    have A1 := A0.out.trans hb
    clear hb K
    obtain ⟨x0, -, -, -, -, -, -, -, -⟩ := A1.cells
    have HA1 : Hid (At w _ v1) := A1
    have BB : Hid (∀ n, Below w.heap.size w (v1.drewN n)) := fun n => (A1.drewN n).below
    clear A1
    simp only at x0
    go_wp2_with fail
    go_quiet (fail)
    go_wp2
    go_ret3
    exact ⟨rfl, by first | exact BB.out _ | exact BB.out 1 | exact HA1.out.below⟩
  | false =>
    have ex : plx c n = 0 := by unfold plx; rw [h]; rfl
    have ey : ply c n = 0 := by unfold ply; rw [h]; rfl
    have ee : ple c n = 5 := by unfold ple; rw [h]; rfl
    rw [ex, ey, ee]
    rw [h] at K
    clear ex ey ee h
    obtain ⟨cw, ch, cl, cd, cr, ci, cb, we, ca⟩ := c
    simp only [cfv, cfc] at *
    go_enter Tryz.func138, Tryz.ntmps138
    go_wp2_with fail
    go_at_call 39
    refine (K _).mono ?_
    rintro e v1 ⟨rfl, hb⟩
    have HA1 : Hid (At w _ v1) := A0.out.trans hb
    clear hb K
    go_wp2
    go_ret3
    exact ⟨rfl, HA1.out.below⟩

theorem at_any (c : Cf) (x y : Int) (w : World) : Calls Tryz.prog 139 #[cfv c, .int .i64 x, .int .i64 y] w fun e w' => e = .returned (.tuple #[.int .i64 (atn c x y), .int .i64 (ate c x y)]) ∧ Below w.heap.size w w' := by
  have K := check_any c
  have I := isBelow_any x c.w
  have J := isBelow_any y c.h
  have A0 : Hid (At w c (w.alloc (.cells (cfc c) 23))) := At.start w c
  cases h : inP c x y with
  | true =>
    obtain ⟨hc, h1, h2, h3, h4⟩ := inP_ok h
    obtain ⟨g1, g2, g3, g4⟩ := node_in h
    have f := fits_of hc
    have ea : atn c x y = y * c.w + x := by unfold atn; rw [if_pos h]
    have ee : ate c x y = 0 := by unfold ate; rw [if_pos h]
    rw [ea, ee]
    rw [hc] at K
    rw [show (decide (0 ≤ x) && decide (x < c.w)) = true by simp [h1, h2]] at I
    rw [show (decide (0 ≤ y) && decide (y < c.h)) = true by simp [h3, h4]] at J
    have hx : x ≤ 63 := by have := f.w2; omega
    have hy : y ≤ 63 := by have := f.h2; omega
    clear ea ee hc f h h2 h4 g2 g4
    obtain ⟨cw, ch, cl, cd, cr, ci, cb, we, ca⟩ := c
    simp only [cfv, cfc] at *
    obtain ⟨M, hM⟩ : ∃ M : Int, y * cw = M := ⟨_, rfl⟩
    rw [hM] at g1 g3 ⊢
    have HM : Hid (y * cw = M) := hM
    clear hM
    go_enter Tryz.func139, Tryz.ntmps139
    go_wp2_with fail
    go_at_call 107
    refine (K _).mono ?_
    rintro e v1 ⟨rfl, hb⟩
    have A1 := A0.out.trans hb
    clear hb K
    obtain ⟨x0, x1, -, -, -, -, -, -, -⟩ := A1.cells
    have HA1 : Hid (At w _ v1) := A1
    clear A1
    simp only at x0 x1
    go_wp2_with fail
    go_at_call 79
    refine (I _).mono ?_
    rintro e v2 ⟨rfl, rfl⟩
    go_wp2_with fail
    go_at_call 79
    refine (J _).mono ?_
    rintro e v2 ⟨rfl, rfl⟩
    clear I J
    have hM := HM.out
    go_wp2
    go_ret2
    exact ⟨rfl, HA1.out.below⟩
  | false =>
    have ea : atn c x y = 0 := by unfold atn; rw [h]; rfl
    have ee : ate c x y = 5 := by unfold ate; rw [h]; rfl
    rw [ea, ee]
    clear ea ee
    unfold inP at h
    have h' : chk c = 0 → (decide (0 ≤ x) && decide (x < c.w)) = true → (decide (0 ≤ y) && decide (y < c.h)) = false := fun hc hx => by
      rw [hx] at h
      simpa [hc] using h
    clear h
    rcases chk_cases c with hc | hc | hc
    · have h' := h' hc
      rw [hc] at K
      clear hc
      obtain ⟨cw, ch, cl, cd, cr, ci, cb, we, ca⟩ := c
      simp only [cfv, cfc] at *
      generalize (decide (0 ≤ x) && decide (x < cw)) = s at *
      generalize (decide (0 ≤ y) && decide (y < ch)) = t at *
      cases s with
      | true =>
        obtain rfl := h' rfl
        clear h'
        go_enter Tryz.func139, Tryz.ntmps139
        go_wp2_with fail
        go_at_call 107
        refine (K _).mono ?_
        rintro e v1 ⟨rfl, hb⟩
        have A1 := A0.out.trans hb
        clear hb K
        obtain ⟨x0, x1, -, -, -, -, -, -, -⟩ := A1.cells
        have HA1 : Hid (At w _ v1) := A1
        clear A1
        simp only at x0 x1
        go_wp2_with fail
        go_at_call 79
        refine (I _).mono ?_
        rintro e v2 ⟨rfl, rfl⟩
        go_wp2_with fail
        go_at_call 79
        refine (J _).mono ?_
        rintro e v2 ⟨rfl, rfl⟩
        clear I J
        go_wp2
        go_ret2
        exact ⟨rfl, HA1.out.below⟩
      | false =>
        clear h' J
        go_enter Tryz.func139, Tryz.ntmps139
        go_wp2_with fail
        go_at_call 107
        refine (K _).mono ?_
        rintro e v1 ⟨rfl, hb⟩
        have A1 := A0.out.trans hb
        clear hb K
        obtain ⟨x0, x1, -, -, -, -, -, -, -⟩ := A1.cells
        have HA1 : Hid (At w _ v1) := A1
        clear A1
        simp only at x0 x1
        go_wp2_with fail
        go_at_call 79
        refine (I _).mono ?_
        rintro e v2 ⟨rfl, rfl⟩
        clear I
        go_wp2
        go_ret2
        exact ⟨rfl, HA1.out.below⟩
    all_goals
      rw [hc] at K
      clear h' hc I J
      obtain ⟨cw, ch, cl, cd, cr, ci, cb, we, ca⟩ := c
      simp only [cfv, cfc] at *
      go_enter Tryz.func139, Tryz.ntmps139
      go_wp2_with fail
      go_at_call 107
      refine (K _).mono ?_
      rintro e v1 ⟨rfl, hb⟩
      have HA1 : Hid (At w _ v1) := A0.out.trans hb
      clear hb K
      go_wp2
      go_ret2
      exact ⟨rfl, HA1.out.below⟩
end Go.Proofs.YtmmegmonmilkcaaGreatDoor.G

namespace Go.Proofs.YtmmegmonmilkcaaGreatDoor.G

/-- The place of the label in its line of nodes, and the label. -/
def tx (c : Cf) (n : Int) : Int := if ply c n % 2 = 1 then c.w - 1 - plx c n else plx c n
def lb (c : Cf) (n : Int) : Int := if isN c n = true then ply c n * c.w + tx c n else 0

theorem lb_no {c : Cf} {n : Int} (h : isN c n = false) : lb c n = 0 := by unfold lb; rw [h]; rfl
theorem tx_in {c : Cf} {n : Int} (h : isN c n = true) : inP c (tx c n) (ply c n) = true := by
  obtain ⟨hc, a1, a2, a3, a4, _⟩ := place_of h
  unfold tx
  split
  · exact inP_mk hc (by omega) (by omega) a3 a4
  · exact inP_mk hc a1 a2 a3 a4
theorem lb_at {c : Cf} {n : Int} (h : isN c n = true) : lb c n = atn c (tx c n) (ply c n) ∧ ate c (tx c n) (ply c n) = 0 := by
  unfold lb atn ate
  rw [h, tx_in h]
  exact ⟨rfl, rfl⟩
theorem lb_ok {c : Cf} {n : Int} (h : isN c n = true) : isN c (lb c n) = true ∧ plx c (lb c n) = tx c n ∧ ply c (lb c n) = ply c n := by
  have e : lb c n = ply c n * c.w + tx c n := by unfold lb; rw [h]; rfl
  rw [e]
  exact node_of (tx_in h)
theorem lb_back {c : Cf} {n : Int} (h : isN c n = true) : lb c (lb c n) = n := by
  obtain ⟨h1, h2, h3⟩ := lb_ok h
  obtain ⟨h4, h5, h6⟩ := lb_ok h1
  refine node_eq h4 h ?_ ?_
  · rw [h5]
    unfold tx at h2 ⊢
    rw [h3]
    revert h2
    split <;> omega
  · rw [h6, h3]
theorem lb_in (c : Cf) (n : Int) : 0 ≤ lb c n ∧ lb c n < 4096 := by
  cases h : isN c n with
  | true => exact isN_lt (lb_ok h).1
  | false => rw [lb_no h]; omega
theorem lb_inj {c : Cf} {a b : Int} (ha : isN c a = true) (hb : isN c b = true) (h : lb c a = lb c b) : a = b := by
  have e := congrArg (lb c) h
  rwa [lb_back ha, lb_back hb] at e
theorem lb_lt {c : Cf} {n : Int} (h : isN c n = true) : lb c n < nod c := by
  have := isN_ok (lb_ok h).1
  rw [nod_of this.1]
  exact this.2.2

/-- Labels that follow one another are of nodes beside one another. -/
theorem adj {c : Cf} {l : Int} (h : isN c l = true) (h1 : isN c (l + 1) = true) : ∃ p, 1 ≤ p ∧ p ≤ 4 ∧ bsB c (lb c l) p = true ∧ bsN c (lb c l) p = lb c (l + 1) := by
  obtain ⟨hc, a1, a2, a3, a4, a5⟩ := place_of h
  obtain ⟨_, b1, b2, b3, b4, b5⟩ := place_of h1
  obtain ⟨k1, k2, k3⟩ := lb_ok h
  obtain ⟨m1, m2, m3⟩ := lb_ok h1
  by_cases hx : plx c l + 1 < c.w
  · have e := node_of (inP_mk hc (x := plx c l + 1) (y := ply c l) (by omega) hx a3 a4)
    rw [show ply c l * c.w + (plx c l + 1) = l + 1 by omega] at e
    obtain ⟨_, ex, ey⟩ := e
    by_cases ho : ply c l % 2 = 1
    · have t1 : tx c l = c.w - 1 - plx c l := by unfold tx; rw [if_pos ho]
      have t2 : tx c (l + 1) = c.w - 1 - (plx c l + 1) := by unfold tx; rw [ey, if_pos ho, ex]
      have hb : bsB c (lb c l) 2 = true := step_mk k1 rfl (by rw [show dx 2 = -1 from rfl]; omega) (by rw [show dx 2 = -1 from rfl]; omega) (by rw [show dy 2 = 0 from rfl]; omega) (by rw [show dy 2 = 0 from rfl]; omega)
      obtain ⟨_, _, _, s1, s2, s3⟩ := step_ok hb
      refine ⟨2, by omega, by omega, hb, node_eq s1 m1 ?_ ?_⟩
      · rw [s2, k2, m2, t1, t2, show dx 2 = -1 from rfl]; omega
      · rw [s3, k3, m3, ey, show dy 2 = 0 from rfl]; omega
    · have t1 : tx c l = plx c l := by unfold tx; rw [if_neg ho]
      have t2 : tx c (l + 1) = plx c l + 1 := by unfold tx; rw [ey, if_neg ho, ex]
      have hb : bsB c (lb c l) 1 = true := step_mk k1 rfl (by rw [show dx 1 = 1 from rfl]; omega) (by rw [show dx 1 = 1 from rfl]; omega) (by rw [show dy 1 = 0 from rfl]; omega) (by rw [show dy 1 = 0 from rfl]; omega)
      obtain ⟨_, _, _, s1, s2, s3⟩ := step_ok hb
      refine ⟨1, by omega, by omega, hb, node_eq s1 m1 ?_ ?_⟩
      · rw [s2, k2, m2, t1, t2, show dx 1 = 1 from rfl]
      · rw [s3, k3, m3, ey, show dy 1 = 0 from rfl]; omega
  · have hw : plx c l = c.w - 1 := by omega
    have hy : ply c l + 1 < c.h := by
      by_cases hy : ply c l + 1 < c.h
      · exact hy
      · exfalso
        have g := (isN_ok h1).2.2
        have e1 : ply c l = c.h - 1 := by omega
        have e2 : (c.h - 1) * c.w = c.w * c.h - c.w := by rw [Int.sub_mul, Int.mul_comm]; omega
        rw [e1, e2] at a5
        omega
    have e := node_of (inP_mk hc (x := 0) (y := ply c l + 1) (by omega) (by omega) (by omega) hy)
    rw [show (ply c l + 1) * c.w + 0 = l + 1 by rw [Int.add_mul]; omega] at e
    obtain ⟨_, ex, ey⟩ := e
    have tt : tx c l = tx c (l + 1) := by
      unfold tx
      rw [ex, ey, hw]
      split <;> split <;> omega
    have hb : bsB c (lb c l) 3 = true := by
      have := (inP_ok (tx_in h)).2
      exact step_mk k1 rfl (by rw [show dx 3 = 0 from rfl]; omega) (by rw [show dx 3 = 0 from rfl]; omega) (by rw [show dy 3 = 1 from rfl]; omega) (by rw [show dy 3 = 1 from rfl]; omega)
    obtain ⟨_, _, _, s1, s2, s3⟩ := step_ok hb
    refine ⟨3, by omega, by omega, hb, node_eq s1 m1 ?_ ?_⟩
    · rw [s2, k2, m2, tt, show dx 3 = 0 from rfl]; omega
    · rw [s3, k3, m3, ey, show dy 3 = 1 from rfl]
theorem fr_one {c : Cf} {n p : Int} (h : bsB c n p = true) (hp : p ≠ 0) : fr c n (bsN c n p) = 1 := by
  obtain ⟨h1, _, _, h4, _, _⟩ := step_ok h
  have e := fr_step h hp h1
  rw [(fr_zero h1 h1).2 rfl] at e
  have := fr_nonneg h4 h1
  rw [fr_comm]
  omega
theorem adj_far {c : Cf} {l : Int} (h : isN c l = true) (h1 : isN c (l + 1) = true) : fr c (lb c l) (lb c (l + 1)) = 1 := by
  obtain ⟨p, p1, p2, hb, e⟩ := adj h h1
  rw [← e]
  exact fr_one hb (by omega)

/-- A port leads to a label that is nearer, and not past it. -/
def nea (c : Cf) (a g m p : Int) : Bool := bsB c a p && ((decide (m < lb c (bsN c a p)) && decide (lb c (bsN c a p) ≤ g)) || (decide (g ≤ lb c (bsN c a p)) && decide (lb c (bsN c a p) < m)))
/-- The port and the label behind the ports below k. -/
def stK (c : Cf) (a g : Int) : Nat → Int × Int
  | 0 => (0, lb c a)
  | k + 1 => if nea c a g (stK c a g k).2 (k : Int) = true then ((k : Int), lb c (bsN c a (k : Int))) else stK c a g k
def stp (c : Cf) (a t : Int) : Int := if (isN c a && isN c t) = true then (stK c a (lb c t) 5).1 else 0
def stB (c : Cf) (a t : Int) : Bool := isN c a && isN c t
/-- The node of the step. -/
def nx (c : Cf) (a t : Int) : Int := bsN c a (stp c a t)

theorem nea_iff {c : Cf} {a g m p : Int} : nea c a g m p = true ↔ bsB c a p = true ∧ ((m < lb c (bsN c a p) ∧ lb c (bsN c a p) ≤ g) ∨ (g ≤ lb c (bsN c a p) ∧ lb c (bsN c a p) < m)) := by
  unfold nea
  simp only [Bool.and_eq_true, Bool.or_eq_true, decide_eq_true_eq]
theorem stK_one {c : Cf} {a g : Int} (h : isN c a = true) : stK c a g 1 = (0, lb c a) := by
  show (if nea c a g (stK c a g 0).2 ((0 : Nat) : Int) = true then _ else stK c a g 0) = _
  rw [if_neg]
  · rfl
  · intro e
    have e := (nea_iff.1 e).2
    have s : bsN c a ((0 : Nat) : Int) = a := by
      have hb : bsB c a 0 = true := by
        obtain ⟨_, a1, a2, a3, a4, _⟩ := place_of h
        exact step_mk h rfl (by rw [show dx 0 = 0 from rfl]; omega) (by rw [show dx 0 = 0 from rfl]; omega) (by rw [show dy 0 = 0 from rfl]; omega) (by rw [show dy 0 = 0 from rfl]; omega)
      obtain ⟨_, _, _, s1, s2, s3⟩ := step_ok hb
      exact node_eq s1 h (by rw [show ((0 : Nat) : Int) = 0 from rfl, s2, show dx 0 = 0 from rfl]; omega) (by rw [show ((0 : Nat) : Int) = 0 from rfl, s3, show dy 0 = 0 from rfl]; omega)
    rw [s] at e
    have : (stK c a g 0).2 = lb c a := rfl
    omega
theorem stK_in (c : Cf) (a g : Int) (k : Nat) : 0 ≤ (stK c a g k).1 ∧ (stK c a g k).1 ≤ k ∧ 0 ≤ (stK c a g k).2 ∧ (stK c a g k).2 < 4096 := by
  induction k with
  | zero =>
    have := lb_in c a
    simp only [stK]
    omega
  | succ k ih =>
    simp only [stK]
    split
    · have := lb_in c (bsN c a (k : Int))
      dsimp only
      omega
    · omega
/-- Behind the ports below k: none yet, or one that leads nearer and not past it. -/
theorem stK_inv (c : Cf) (a g : Int) (k : Nat) :
    ((stK c a g k).1 = 0 ∧ (stK c a g k).2 = lb c a) ∨ (bsB c a (stK c a g k).1 = true ∧ (stK c a g k).2 = lb c (bsN c a (stK c a g k).1) ∧ ((lb c a < (stK c a g k).2 ∧ (stK c a g k).2 ≤ g) ∨ (g ≤ (stK c a g k).2 ∧ (stK c a g k).2 < lb c a))) := by
  induction k with
  | zero => exact Or.inl ⟨rfl, rfl⟩
  | succ k ih =>
    simp only [stK]
    split
    · rename_i h
      obtain ⟨hb, hl⟩ := nea_iff.1 h
      refine Or.inr ⟨hb, rfl, ?_⟩
      dsimp only
      rcases ih with ⟨_, e⟩ | ⟨_, _, e⟩ <;> omega
    · exact ih
theorem stK_found {c : Cf} {a g : Int} {p : Nat} (hp : 1 ≤ p) (hb : bsB c a p = true) (hl : (lb c a < lb c (bsN c a p) ∧ lb c (bsN c a p) ≤ g) ∨ (g ≤ lb c (bsN c a p) ∧ lb c (bsN c a p) < lb c a)) (k : Nat) (hk : p < k) : (stK c a g k).1 ≠ 0 := by
  induction k with
  | zero => omega
  | succ k ih =>
    have hi := stK_inv c a g k
    simp only [stK]
    split
    · rename_i h
      dsimp only
      intro e
      have e0 : (k : Int) = 0 := e
      have : p = k := by omega
      omega
    · rename_i h
      by_cases hpk : p = k
      · subst hpk
        rcases hi with ⟨e1, e2⟩ | ⟨_, _, e⟩
        · exfalso
          apply h
          rw [nea_iff, e2]
          exact ⟨hb, hl⟩
        · intro e0
          rename_i q1 q2
          rw [e0] at q1 q2
          have s := step_ok q1
          have : bsN c a 0 = a := node_eq s.2.2.2.1 s.1 (by rw [s.2.2.2.2.1, show dx 0 = 0 from rfl]; omega) (by rw [s.2.2.2.2.2, show dy 0 = 0 from rfl]; omega)
          rw [this] at q2
          omega
      · exact ih (by omega)

/-- P8.2: the step is there; the label is nearer, and not past it. -/
theorem nx_ok {c : Cf} {a t : Int} (ha : isN c a = true) (ht : isN c t = true) (hne : a ≠ t) :
    1 ≤ stp c a t ∧ stp c a t ≤ 4 ∧ bsB c a (stp c a t) = true ∧ isN c (nx c a t) = true ∧ fr c a (nx c a t) = 1 ∧
    ((lb c a < lb c (nx c a t) ∧ lb c (nx c a t) ≤ lb c t) ∨ (lb c t ≤ lb c (nx c a t) ∧ lb c (nx c a t) < lb c a)) := by
  have e : stp c a t = (stK c a (lb c t) 5).1 := by unfold stp; rw [ha, ht]; rfl
  have hl : lb c a ≠ lb c t := fun e => hne (lb_inj ha ht e)
  obtain ⟨la, xa, ya⟩ := lb_ok ha
  have la' := isN_ok la
  have lt' := isN_ok (lb_ok ht).1
  have f : ∃ p : Nat, 1 ≤ p ∧ p < 5 ∧ bsB c a p = true ∧ ((lb c a < lb c (bsN c a p) ∧ lb c (bsN c a p) ≤ lb c t) ∨ (lb c t ≤ lb c (bsN c a p) ∧ lb c (bsN c a p) < lb c a)) := by
    by_cases hlt : lb c a < lb c t
    · have h1 : isN c (lb c a + 1) = true := isN_mk la'.1 (by omega) (by omega)
      obtain ⟨p, p1, p2, hb, en⟩ := adj la h1
      rw [lb_back ha] at hb en
      have hp : ((p.toNat : Nat) : Int) = p := by omega
      refine ⟨p.toNat, by omega, by omega, by rw [hp]; exact hb, ?_⟩
      rw [hp, en, lb_back h1]
      omega
    · have h1 : isN c (lb c a - 1) = true := isN_mk la'.1 (by omega) (by omega)
      have h2 : isN c (lb c a - 1 + 1) = true := by rw [show lb c a - 1 + 1 = lb c a by omega]; exact la
      obtain ⟨p, p1, p2, hb, en⟩ := adj h1 h2
      rw [show lb c a - 1 + 1 = lb c a by omega, lb_back ha] at en
      obtain ⟨b1, b2⟩ := back_ok hb
      rw [en] at b1 b2
      have hi : isP p = true := (step_ok hb).2.1
      have hq : 1 ≤ bck p ∧ bck p ≤ 4 := by
        rcases (isP_iff p).1 hi with rfl | rfl | rfl | rfl | rfl
        · omega
        all_goals decide
      have hp : (((bck p).toNat : Nat) : Int) = bck p := by omega
      refine ⟨(bck p).toNat, by omega, by omega, by rw [hp]; exact b1, ?_⟩
      rw [hp, b2, lb_back h1]
      omega
  obtain ⟨p, p1, p2, hb, hl'⟩ := f
  have hs := stK_found p1 hb hl' 5 p2
  have hi := stK_inv c a (lb c t) 5
  have hr := stK_in c a (lb c t) 5
  rw [← e] at hs hi hr
  rcases hi with ⟨e0, _⟩ | ⟨i1, i2, i3⟩
  · exact absurd e0 hs
  · have s := step_ok i1
    rw [i2] at i3
    refine ⟨by omega, ?_, i1, s.2.2.2.1, fr_one i1 (by omega), i3⟩
    rcases (isP_iff _).1 s.2.1 with h | h | h | h | h <;> omega
theorem stp_in (c : Cf) (a t : Int) : 0 ≤ stp c a t ∧ stp c a t ≤ 5 := by
  unfold stp
  split
  · have := stK_in c a (lb c t) 5
    omega
  · omega
theorem nx_in (c : Cf) (a t : Int) : 0 ≤ nx c a t ∧ nx c a t < 4096 := bsN_in c a _

/-- How many labels two nodes are apart. -/
def apt (c : Cf) (a t : Int) : Nat := (btw (lb c a) (lb c t)).toNat
theorem apt_lt {c : Cf} {a t : Int} (ha : isN c a = true) (ht : isN c t = true) (hne : a ≠ t) : apt c (nx c a t) t < apt c a t := by
  have h := (nx_ok ha ht hne).2.2.2.2.2
  unfold apt btw
  split <;> split <;> omega
theorem apt_in (c : Cf) (a t : Int) : apt c a t < 4096 := by
  have := lb_in c a
  have := lb_in c t
  unfold apt btw
  split <;> omega
theorem apt_btw (c : Cf) (a t : Int) : (apt c a t : Int) = btw (lb c a) (lb c t) := by
  have := lb_in c a
  have := lb_in c t
  unfold apt btw
  split <;> omega

/-- The nodes of the way to one, behind the first one. -/
def wyF (c : Cf) : Nat → Int → Int → List Int
  | 0, _, _ => []
  | k + 1, a, t => if a = t then [] else nx c a t :: wyF c k (nx c a t) t
def wy (c : Cf) (a t : Int) : List Int := wyF c (apt c a t) a t
theorem wyF_more {c : Cf} {t : Int} (ht : isN c t = true) : ∀ (k m : Nat) (a : Int), isN c a = true → apt c a t ≤ k → apt c a t ≤ m → wyF c k a t = wyF c m a t := by
  intro k
  induction k with
  | zero =>
    intro m a ha h0 hm
    have e : a = t := by
      by_cases h : a = t
      · exact h
      · have := apt_lt ha ht h
        omega
    cases m with
    | zero => rfl
    | succ m => simp only [wyF]; rw [if_pos e]
  | succ k ih =>
    intro m a ha hk hm
    by_cases e : a = t
    · cases m with
      | zero => simp only [wyF]; rw [if_pos e]
      | succ m => simp only [wyF]; rw [if_pos e, if_pos e]
    · have hl := apt_lt ha ht e
      cases m with
      | zero => omega
      | succ m =>
        simp only [wyF]
        rw [if_neg e, if_neg e, ih m _ (nx_ok ha ht e).2.2.2.1 (by omega) (by omega)]
theorem wy_end (c : Cf) (t : Int) : wy c t t = [] := by
  unfold wy
  have : apt c t t = 0 := by unfold apt btw; simp
  rw [this]
  rfl
theorem wy_step {c : Cf} {a t : Int} (ha : isN c a = true) (ht : isN c t = true) (hne : a ≠ t) : wy c a t = nx c a t :: wy c (nx c a t) t := by
  have hl := apt_lt ha ht hne
  have hn := (nx_ok ha ht hne).2.2.2.1
  obtain ⟨k, hk⟩ : ∃ k, apt c a t = k + 1 := ⟨apt c a t - 1, by omega⟩
  unfold wy
  rw [hk]
  simp only [wyF]
  rw [if_neg hne, wyF_more ht k (apt c (nx c a t) t) _ hn (by omega) (Nat.le_refl _)]

/-- Whatever holds of the end, and of a node if of the next one, holds of all. -/
theorem wy_ind {c : Cf} {t : Int} (ht : isN c t = true) (Q : Int → Prop) (h0 : Q t) (h1 : ∀ a, isN c a = true → a ≠ t → Q (nx c a t) → Q a) : ∀ a, isN c a = true → Q a := by
  have g : ∀ (k : Nat) a, apt c a t ≤ k → isN c a = true → Q a := by
    intro k
    induction k with
    | zero =>
      intro a hk ha
      by_cases e : a = t
      · exact e ▸ h0
      · have := apt_lt ha ht e
        omega
    | succ k ih =>
      intro a hk ha
      by_cases e : a = t
      · exact e ▸ h0
      · have := apt_lt ha ht e
        exact h1 a ha e (ih _ (by omega) (nx_ok ha ht e).2.2.2.1)
  exact fun a ha => g _ a (Nat.le_refl _) ha
theorem wy_len {c : Cf} {t : Int} (ht : isN c t = true) : ∀ a, isN c a = true → (wy c a t).length ≤ apt c a t := by
  refine wy_ind ht _ (by rw [wy_end]; simp) ?_
  intro a ha e h
  have := apt_lt ha ht e
  rw [wy_step ha ht e, List.length_cons]
  omega
theorem wy_is {c : Cf} {t : Int} (ht : isN c t = true) : ∀ a, isN c a = true → ∀ n ∈ wy c a t, isN c n = true := by
  refine wy_ind ht _ (by rw [wy_end]; simp) ?_
  intro a ha e h
  rw [wy_step ha ht e]
  intro n hn
  rcases List.mem_cons.1 hn with rfl | hn
  · exact (nx_ok ha ht e).2.2.2.1
  · exact h n hn
/-- Its last node is the end. -/
theorem wy_last {c : Cf} {t : Int} (ht : isN c t = true) : ∀ a, isN c a = true → ∀ d, (a :: wy c a t).getLastD d = t := by
  refine wy_ind ht _ (by rw [wy_end]; intro d; rfl) ?_
  intro a ha e h d
  rw [wy_step ha ht e]
  exact h a
theorem wy_mem {c : Cf} {a t : Int} (ha : isN c a = true) (ht : isN c t = true) (hne : a ≠ t) : t ∈ wy c a t := by
  have g := wy_ind ht (fun a => a = t ∨ t ∈ wy c a t) (Or.inl rfl) (by
    intro a ha e h
    rw [wy_step ha ht e]
    rcases h with h | h
    · exact Or.inr (List.mem_cons.2 (Or.inl h.symm))
    · exact Or.inr (List.mem_cons.2 (Or.inr h))) a ha
  exact g.resolve_left hne

/-- Labels rise, or fall. -/
def ris (c : Cf) (u : Bool) (a b : Int) : Prop := if u = true then lb c a < lb c b else lb c b < lb c a
theorem ris_trans {c : Cf} {u : Bool} {a b d : Int} (h : ris c u a b) (k : ris c u b d) : ris c u a d := by
  unfold ris at *
  cases u <;> simp only [Bool.false_eq_true, if_true, if_false] at * <;> omega
theorem ris_ne {c : Cf} {u : Bool} {a b : Int} (h : ris c u a b) : a ≠ b := by
  rintro rfl
  unfold ris at h
  cases u <;> simp only [Bool.false_eq_true, if_true, if_false] at h <;> omega
theorem ris_nx {c : Cf} {u : Bool} {a t : Int} (ha : isN c a = true) (ht : isN c t = true) (h : ris c u a t) : ris c u a (nx c a t) ∧ (nx c a t = t ∨ ris c u (nx c a t) t) := by
  have k := nx_ok ha ht (ris_ne h)
  have kl := k.2.2.2.2.2
  by_cases e : nx c a t = t
  · exact ⟨by rw [e]; exact h, Or.inl e⟩
  · have : lb c (nx c a t) ≠ lb c t := fun q => e (lb_inj k.2.2.2.1 ht q)
    unfold ris at h ⊢
    cases u <;> simp only [Bool.false_eq_true, if_true, if_false] at h ⊢ <;> exact ⟨by omega, Or.inr (by omega)⟩
/-- P8.2: labels rise (or fall) with each step, and don't go past the end. -/
theorem wy_rises {c : Cf} {u : Bool} {t : Int} (ht : isN c t = true) : ∀ a, isN c a = true → (a = t ∨ ris c u a t) → List.Pairwise (ris c u) (a :: wy c a t) ∧ ∀ n ∈ a :: wy c a t, n = t ∨ ris c u n t := by
  refine wy_ind ht _ ?_ ?_
  · intro _
    rw [wy_end]
    exact ⟨List.pairwise_singleton _ _, fun n hn => Or.inl (by simpa using hn)⟩
  · intro a ha e h hr
    have hr := hr.resolve_left e
    obtain ⟨r1, r2⟩ := ris_nx ha ht hr
    obtain ⟨p, m⟩ := h r2
    rw [wy_step ha ht e]
    refine ⟨List.pairwise_cons.2 ⟨?_, p⟩, ?_⟩
    · intro n hn
      rcases List.mem_cons.1 hn with rfl | hn'
      · exact r1
      · exact ris_trans r1 ((List.pairwise_cons.1 p).1 n hn')
    · intro n hn
      rcases List.mem_cons.1 hn with rfl | hn'
      · exact Or.inr hr
      · exact m n hn'
/-- Each step leads to one beside. -/
theorem wy_beside {c : Cf} {t : Int} (ht : isN c t = true) : ∀ a, isN c a = true → ∀ i, i + 1 < (a :: wy c a t).length → fr c ((a :: wy c a t).getD i 0) ((a :: wy c a t).getD (i + 1) 0) = 1 := by
  refine wy_ind ht _ (by rw [wy_end]; intro i h; simp at h) ?_
  intro a ha e h i hi
  rw [wy_step ha ht e] at hi ⊢
  cases i with
  | zero => exact (nx_ok ha ht e).2.2.2.2.1
  | succ i => exact h i (by simpa using hi)

/-- The nodes of the way to several, one behind the other, behind the first one. -/
def wyL (c : Cf) : Int → List Int → List Int
  | _, [] => []
  | a, t :: ts => wy c a t ++ wyL c t ts
def lst : Int → List Int → Int
  | a, [] => a
  | _, t :: ts => lst t ts
def areN (c : Cf) (ts : List Int) : Bool := ts.all fun n => isN c n
def wyB (c : Cf) (a : Int) (ts : List Int) : Bool := isN c a && areN c ts
def wys (c : Cf) (a : Int) (ts : List Int) : List Int := if wyB c a ts = true then a :: wyL c a ts else []
theorem areN_iff {c : Cf} {ts : List Int} : areN c ts = true ↔ ∀ n ∈ ts, isN c n = true := by unfold areN; rw [List.all_eq_true]
theorem lst_snoc (a : Int) (ts : List Int) (t : Int) : lst a (ts ++ [t]) = t := by
  induction ts generalizing a with
  | nil => rfl
  | cons x ts ih => exact ih x
theorem lst_is {c : Cf} {a : Int} {ts : List Int} (ha : isN c a = true) (ht : ∀ n ∈ ts, isN c n = true) : isN c (lst a ts) = true := by
  induction ts generalizing a with
  | nil => exact ha
  | cons x ts ih => exact ih (ht x (List.mem_cons_self ..)) (fun n hn => ht n (List.mem_cons_of_mem _ hn))
theorem wyL_snoc (c : Cf) (a : Int) (ts : List Int) (t : Int) : wyL c a (ts ++ [t]) = wyL c a ts ++ wy c (lst a ts) t := by
  induction ts generalizing a with
  | nil => simp [wyL, lst]
  | cons x ts ih =>
    show wy c a x ++ wyL c x (ts ++ [t]) = (wy c a x ++ wyL c x ts) ++ wy c (lst x ts) t
    rw [ih x, List.append_assoc]
theorem wyL_len {c : Cf} {a : Int} {ts : List Int} (ha : isN c a = true) (ht : ∀ n ∈ ts, isN c n = true) : (wyL c a ts).length ≤ ts.length * 4096 := by
  induction ts generalizing a with
  | nil => simp [wyL]
  | cons x ts ih =>
    have hx := ht x (List.mem_cons_self ..)
    have e := ih hx (fun n hn => ht n (List.mem_cons_of_mem _ hn))
    have l := wy_len hx a ha
    have b := apt_in c a x
    show (wy c a x ++ wyL c x ts).length ≤ _
    rw [List.length_append, List.length_cons]
    omega
theorem wyL_rises {c : Cf} {u : Bool} {a : Int} {ts : List Int} (ha : isN c a = true) (ht : ∀ n ∈ ts, isN c n = true) (hp : List.Pairwise (ris c u) (a :: ts)) :
    List.Pairwise (ris c u) (a :: wyL c a ts) ∧ ts.Sublist (wyL c a ts) := by
  induction ts generalizing a with
  | nil => exact ⟨hp, List.Sublist.refl _⟩
  | cons x ts ih =>
    have hx := ht x (List.mem_cons_self ..)
    obtain ⟨p1, p2⟩ := List.pairwise_cons.1 hp
    have hax := p1 x (List.mem_cons_self ..)
    obtain ⟨q1, q2⟩ := ih hx (fun n hn => ht n (List.mem_cons_of_mem _ hn)) p2
    obtain ⟨w1, w2⟩ := wy_rises hx a ha (Or.inr hax)
    constructor
    · show List.Pairwise (ris c u) ((a :: wy c a x) ++ wyL c x ts)
      refine List.pairwise_append.2 ⟨w1, (List.pairwise_cons.1 q1).2, ?_⟩
      intro n hn m hm
      have hm' := (List.pairwise_cons.1 q1).1 m hm
      rcases w2 n hn with rfl | r
      · exact hm'
      · exact ris_trans r hm'
    · show (([x] : List Int) ++ ts).Sublist (wy c a x ++ wyL c x ts)
      exact List.Sublist.append (List.singleton_sublist.2 (wy_mem ha hx (ris_ne hax))) q2
theorem wys_ok {c : Cf} {a : Int} {ts : List Int} (ha : isN c a = true) (ht : ∀ n ∈ ts, isN c n = true) : wys c a ts = a :: wyL c a ts := by
  unfold wys wyB
  rw [ha, areN_iff.2 ht]
  rfl
theorem wys_len (c : Cf) (a : Int) (ts : List Int) : (wys c a ts).length ≤ ts.length * 4096 + 1 := by
  unfold wys
  split
  · rename_i h
    unfold wyB at h
    simp only [Bool.and_eq_true] at h
    have := wyL_len h.1 (areN_iff.1 h.2)
    rw [List.length_cons]
    omega
  · simp

/-- What is left of a row whose first one is struck each time it comes by. -/
def rest : List Int → List Int → List Int
  | ts, [] => ts
  | [], _ :: _ => []
  | t :: ts, x :: w => if x = t then rest ts w else rest (t :: ts) w
theorem rest_nil (w : List Int) : rest [] w = [] := by cases w <;> rfl
theorem rest_of {ts w : List Int} (h : ts.Sublist w) : rest ts w = [] := by
  induction w generalizing ts with
  | nil => cases h; rfl
  | cons x w ih =>
    cases ts with
    | nil => rfl
    | cons t ts =>
      show (if x = t then rest ts w else rest (t :: ts) w) = []
      split
      · cases h with
        | cons _ h => exact ih (List.Sublist.trans (List.sublist_cons_self ..) h)
        | cons_cons _ h => exact ih h
      · rename_i hne
        cases h with
        | cons _ h => exact ih h
        | cons_cons _ h => exact absurd rfl hne
end Go.Proofs.YtmmegmonmilkcaaGreatDoor.G

namespace Go.Proofs.YtmmegmonmilkcaaGreatDoor.G.Gr
open Go.RowKit

/-- Below, and the count of draws is no less. -/
structure Below (B : Nat) (w w' : World) : Prop where
  os : w'.os = w.os
  tape : w'.tape = w.tape
  output : w'.output = w.output
  size : w.heap.size ≤ w'.heap.size
  block : ∀ k, k < B → w'.heap[k]? = w.heap[k]?
  drawn : w.drawn ≤ w'.drawn
theorem Below.plain {B : Nat} {w w' : World} (h : Below B w w') : Go.RowKit.Below B w w' := ⟨h.os, h.tape, h.output, h.size, h.block⟩
theorem Below.refl (B : Nat) (w : World) : Below B w w := ⟨rfl, rfl, rfl, Nat.le_refl _, fun _ _ => rfl, Nat.le_refl _⟩
theorem Below.trans {B : Nat} {a b c : World} (h : Below B a b) (k : Below B b c) : Below B a c :=
  ⟨k.os.trans h.os, k.tape.trans h.tape, k.output.trans h.output, Nat.le_trans h.size k.size, fun i hi => (k.block i hi).trans (h.block i hi), Nat.le_trans h.drawn k.drawn⟩
theorem Below.mono {B B' : Nat} {w w' : World} (h : Below B w w') (hB : B' ≤ B) : Below B' w w' := ⟨h.os, h.tape, h.output, h.size, fun k hk => h.block k (Nat.lt_of_lt_of_le hk hB), h.drawn⟩
theorem Below.drewN {B : Nat} {a w : World} (h : Below B a w) (n : Nat) : Below B a (w.drewN n) := ⟨h.os, h.tape, h.output, h.size, h.block, Nat.le_trans h.drawn (Nat.le_add_right _ _)⟩
theorem Below.alloc {B : Nat} {a w : World} (h : Below B a w) (hB : B ≤ w.heap.size) (o : Obj) : Below B a (w.alloc o) :=
  h.trans ⟨rfl, rfl, rfl, by simp, fun k hk => Go.RowKit.Below.heap_alloc _ _ _ (by omega), Nat.le_refl _⟩
theorem Below.cell {B : Nat} {w w' : World} (h : Below B w w') {p : Addr} (hp : p.block < B) : w'.cell? p = w.cell? p := h.plain.cell hp
/-- New blocks alone, and draws. -/
theorem Below.grow {w w' : World} (h : Below w.heap.size w w') : ∃ q os, w' = Go.Sort.grow (w.drewN q) os := by
  refine ⟨w'.drawn - w.drawn, w'.heap.extract w.heap.size w'.heap.size, ?_⟩
  have e1 : w'.heap = w.heap ++ w'.heap.extract w.heap.size w'.heap.size := by
    apply Array.ext_getElem?
    intro k
    by_cases hk : k < w.heap.size
    · rw [h.block k hk, Array.getElem?_append_left hk]
    · rw [Array.getElem?_append_right (by omega), Array.getElem?_extract]
      have hs := h.size
      split
      · rw [show w.heap.size + (k - w.heap.size) = k by omega]
      · rw [Array.getElem?_eq_none (by omega)]
  have e2 : w.drawn + (w'.drawn - w.drawn) = w'.drawn := by have := h.drawn; omega
  obtain ⟨h1, h2, h3, h4, h5⟩ := w'
  have g1 := h.os
  have g2 := h.tape
  have g3 := h.output
  simp only at g1 g2 g3 e1 e2
  unfold Go.Sort.grow World.drewN
  simp only [← e1, e2, g1, g2, g3]

theorem within_any (lo hi : Int) (b : Nat) (zs : List Int) (n c : Nat) (w : World) (hz : zs.length ≤ 100) (hn : zs.length = n) (hb : b < w.heap.size) (hc : ∀ j, j < zs.length → w.cell? ⟨b, j, none⟩ = some (.int .i64 (zs.getD j 0))) :
    Calls Tryz.prog 131 #[.int .i64 lo, .int .i64 hi, .slice (some ⟨b, 0, none⟩) n c] w fun e w' => e = .returned (.bool (!(zs.any (outB lo hi)))) ∧ Below w.heap.size w w' := by
  subst hn
  have b0 : Hid (Below w.heap.size w ((w.alloc (.cells #[.int .i64 lo] 3)).alloc (.cells #[.int .i64 hi] 3))) := ((Below.refl _ _).alloc (Nat.le_refl _) _).alloc (by simp) _
  have K := contains_any lo hi b zs c ⟨w.heap.size, 0, none⟩ ⟨w.heap.size + 1, 0, none⟩ ((w.alloc (.cells #[.int .i64 lo] 3)).alloc (.cells #[.int .i64 hi] 3)) (by go_simp) (by go_simp) hz
    (fun j hj => by rw [b0.out.cell (p := ⟨b, j, none⟩) hb]; exact hc j hj)
  clear hc
  generalize zs.any (outB lo hi) = t at *
  generalize zs.length = n at *
  go_enter Tryz.func131, Tryz.ntmps131
  go_wp2_with (go_at_call 146; (with_reducible refine K.mono ?_); rintro e w' ⟨rfl, rfl⟩)
  go_ret
  exact ⟨rfl, b0.out⟩

/-- One number, two, three. -/
theorem within1 (lo hi x : Int) (b c : Nat) (w : World) (hb : b < w.heap.size) (h0 : w.cell? ⟨b, 0, none⟩ = some (.int .i64 x)) :
    Calls Tryz.prog 131 #[.int .i64 lo, .int .i64 hi, .slice (some ⟨b, 0, none⟩) 1 c] w fun e w' => e = .returned (.bool (!(outB lo hi x))) ∧ Below w.heap.size w w' := by
  have h := within_any lo hi b [x] 1 c w (by simp) rfl hb (fun j hj => by
    have : j < 1 := hj
    obtain rfl : j = 0 := by omega
    exact h0)
  simpa using h
theorem within2 (lo hi x y : Int) (b c : Nat) (w : World) (hb : b < w.heap.size) (h0 : w.cell? ⟨b, 0, none⟩ = some (.int .i64 x)) (h1 : w.cell? ⟨b, 1, none⟩ = some (.int .i64 y)) :
    Calls Tryz.prog 131 #[.int .i64 lo, .int .i64 hi, .slice (some ⟨b, 0, none⟩) 2 c] w fun e w' => e = .returned (.bool (!(outB lo hi x || outB lo hi y))) ∧ Below w.heap.size w w' := by
  have h := within_any lo hi b [x, y] 2 c w (by simp) rfl hb (fun j hj => by
    have : j < 2 := hj
    rcases (by omega : j = 0 ∨ j = 1) with rfl | rfl
    · exact h0
    · exact h1)
  simpa using h
theorem within3 (lo hi x y z : Int) (b c : Nat) (w : World) (hb : b < w.heap.size) (h0 : w.cell? ⟨b, 0, none⟩ = some (.int .i64 x)) (h1 : w.cell? ⟨b, 1, none⟩ = some (.int .i64 y)) (h2 : w.cell? ⟨b, 2, none⟩ = some (.int .i64 z)) :
    Calls Tryz.prog 131 #[.int .i64 lo, .int .i64 hi, .slice (some ⟨b, 0, none⟩) 3 c] w fun e w' => e = .returned (.bool (!(outB lo hi x || outB lo hi y || outB lo hi z))) ∧ Below w.heap.size w w' := by
  have h := within_any lo hi b [x, y, z] 3 c w (by simp) rfl hb (fun j hj => by
    have : j < 3 := hj
    rcases (by omega : j = 0 ∨ j = 1 ∨ j = 2) with rfl | rfl | rfl
    · exact h0
    · exact h1
    · exact h2)
  simpa [Bool.or_assoc] using h

/-- Block number w.heap.size holds the config; what lay below it lies. -/
def At (w : World) (c : Cf) (v : World) : Prop := Below (w.heap.size + 1) (w.alloc (.cells (cfc c) 23)) v
theorem At.start (w : World) (c : Cf) : At w c (w.alloc (.cells (cfc c) 23)) := Below.refl _ _
theorem At.cell {w v : World} {c : Cf} (h : At w c v) (j : Nat) : v.cell? ⟨w.heap.size, j, none⟩ = (cfc c)[j]? := by
  rw [Below.cell h (p := ⟨w.heap.size, j, none⟩) (by simp), World.cell?_alloc_at _ _ _ _ rfl]
theorem At.size {w v : World} {c : Cf} (h : At w c v) : w.heap.size + 1 ≤ v.heap.size := by
  have := Below.size h
  simpa using this
theorem At.trans {w v v' : World} {c : Cf} (h : At w c v) (hb : Below v.heap.size v v') : At w c v' := Below.trans h (hb.mono h.size)
theorem At.alloc {w v : World} {c : Cf} (h : At w c v) (o : Obj) : At w c (v.alloc o) := Below.alloc h h.size o
theorem At.below {w v : World} {c : Cf} (h : At w c v) : Below w.heap.size w v :=
  ((Below.refl _ _).alloc (Nat.le_refl _) _).trans (Below.mono h (by omega))
/-- All nine. -/
theorem At.cells {w v : World} {c : Cf} (h : At w c v) :
    v.cell? ⟨w.heap.size, 0, none⟩ = some (.int .i64 c.w) ∧ v.cell? ⟨w.heap.size, 1, none⟩ = some (.int .i64 c.h) ∧ v.cell? ⟨w.heap.size, 2, none⟩ = some (.int .i64 c.l) ∧
    v.cell? ⟨w.heap.size, 3, none⟩ = some (.int .i64 c.d) ∧ v.cell? ⟨w.heap.size, 4, none⟩ = some (.int .i64 c.r) ∧ v.cell? ⟨w.heap.size, 5, none⟩ = some (.int .i64 c.i) ∧
    v.cell? ⟨w.heap.size, 6, none⟩ = some (.int .i64 c.b) ∧ v.cell? ⟨w.heap.size, 7, none⟩ = some (.bool c.we) ∧ v.cell? ⟨w.heap.size, 8, none⟩ = some (.bool c.ca) :=
  ⟨h.cell 0, h.cell 1, h.cell 2, h.cell 3, h.cell 4, h.cell 5, h.cell 6, h.cell 7, h.cell 8⟩

set_option maxHeartbeats 1000000 in
theorem check_any (c : Cf) (w : World) : Calls Tryz.prog 107 #[cfv c] w fun e w' => e = .returned (.int .i64 (chk c)) ∧ Below w.heap.size w w' := by
  have K1 := within2 1 64 c.w c.h
  have K2 := within1 (if c.ca then 2 else 1) 8 c.l
  have K3 := within3 1 64 c.d c.r c.i
  have K4 := within1 1 16 c.b
  unfold chk
  change ∀ b cc w, _ → _ → _ → Calls _ _ _ _ (fun e w' => e = .returned (.bool (!(t1 c))) ∧ _) at K1
  change ∀ b cc w, _ → _ → Calls _ _ _ _ (fun e w' => e = .returned (.bool (!(t2 c))) ∧ _) at K2
  change ∀ b cc w, _ → _ → _ → _ → Calls _ _ _ _ (fun e w' => e = .returned (.bool (!(t3 c))) ∧ _) at K3
  change ∀ b cc w, _ → _ → Calls _ _ _ _ (fun e w' => e = .returned (.bool (!(t4 c))) ∧ _) at K4
  generalize t1 c = T1 at *
  generalize t2 c = T2 at *
  generalize t3 c = T3 at *
  generalize t4 c = T4 at *
  have A0 : Hid (At w c (w.alloc (.cells (cfc c) 23))) := At.start w c
  have sz : Hid ((w.alloc (.cells (cfc c) 23)).heap.size = w.heap.size + 1) := by simp [Hid]
  obtain ⟨cw, ch, cl, cd, cr, ci, cb, we, ca⟩ := c
  simp only [cfv, cfc] at *
  cases ca
  all_goals
    simp only [if_true, if_false, Bool.false_eq_true] at K2
    go_enter Tryz.func107, Tryz.ntmps107
    go_wp2_with fail
    go_at_call 131
    refine (K1 _ _ _ (by simp) (by go_simp) (by go_simp)).mono ?_
    rintro e v1 ⟨rfl, hb⟩
    have A1 := (A0.out.alloc _).trans hb
    clear hb K1
    obtain ⟨-, -, x2, x3, x4, x5, x6, -, -⟩ := A1.cells
    have Z1 : w.heap.size < v1.heap.size := by have := A1.size; omega
    have HA1 : Hid (At w _ v1) := A1
    clear A1
    cases T1 with
    | true =>
      go_wp2
      go_ret
      exact ⟨rfl, HA1.out.below⟩
    | false =>
      go_wp2_with fail
      go_at_call 131
      refine (K2 _ _ _ (by simp) (by go_simp)).mono ?_
      rintro e v2 ⟨rfl, hb⟩
      clear x2 x3 x4 x5 x6 Z1 K2
      have A2 := (HA1.out.alloc _).trans hb
      clear hb
      obtain ⟨-, -, -, x3, x4, x5, x6, -, -⟩ := A2.cells
      have Z2 : w.heap.size < v2.heap.size := by have := A2.size; omega
      have HA2 : Hid (At w _ v2) := A2
      clear A2 HA1
      cases T2 with
      | true =>
        go_wp2
        go_ret
        exact ⟨rfl, HA2.out.below⟩
      | false =>
        go_wp2_with fail
        go_at_call 131
        refine (K3 _ _ _ (by simp) (by go_simp) (by go_simp) (by go_simp)).mono ?_
        rintro e v3 ⟨rfl, hb⟩
        clear x3 x4 x5 x6 Z2 K3
        have A3 := (HA2.out.alloc _).trans hb
        clear hb
        obtain ⟨-, -, -, -, -, -, x6, -, -⟩ := A3.cells
        have Z3 : w.heap.size < v3.heap.size := by have := A3.size; omega
        have HA3 : Hid (At w _ v3) := A3
        clear A3 HA2
        cases T3 with
        | true =>
          go_wp2
          go_ret
          exact ⟨rfl, HA3.out.below⟩
        | false =>
          go_wp2_with fail
          go_at_call 131
          refine (K4 _ _ _ (by simp) (by go_simp)).mono ?_
          rintro e v4 ⟨rfl, hb⟩
          clear x6 Z3 K4
          have A4 := (HA3.out.alloc _).trans hb
          have HA4 : Hid (At w _ v4) := A4
          clear A4 HA3 hb
          cases T4 with
          | true =>
            go_wp2
            go_ret
            exact ⟨rfl, HA4.out.below⟩
          | false =>
            go_wp2
            go_ret
            exact ⟨rfl, HA4.out.below⟩

theorem nodes_any (c : Cf) (w : World) : Calls Tryz.prog 80 #[cfv c] w fun e w' => e = .returned (.int .i64 (nod c)) ∧ Below w.heap.size w w' := by
  have K := check_any c
  have F := fun h => @fits_of c h
  have A0 : Hid (At w c (w.alloc (.cells (cfc c) 23))) := At.start w c
  unfold nod
  rcases chk_cases c with h | h | h
  · have f := F h
    have hm := mul_in f.w1 f.w2 f.h1 f.h2
    rw [if_pos h]
    rw [h] at K
    clear F h f
    obtain ⟨cw, ch, cl, cd, cr, ci, cb, we, ca⟩ := c
    simp only [cfv, cfc] at *
    obtain ⟨M, hM⟩ : ∃ M : Int, M = cw * ch := ⟨_, rfl⟩
    have HM : Hid (M = cw * ch) := hM
    rw [← hM] at hm ⊢
    obtain ⟨m1, m2⟩ := hm
    clear hM
    go_enter Tryz.func80, Tryz.ntmps80
    go_wp2_with fail
    go_at_call 107
    refine (K _).mono ?_
    rintro e v1 ⟨rfl, hb⟩
    have A1 := A0.out.trans hb
    clear hb K
    obtain ⟨x0, x1, -, -, -, -, -, -, -⟩ := A1.cells
    have HA1 : Hid (At w _ v1) := A1
    clear A1
    go_wp2
    go_ret
    exact ⟨ret_int (by rw [← HM.out]; exact IntWalk.wrap64_in _ (by omega)), HA1.out.below⟩
  all_goals
    have h0 : ¬ chk c = 0 := by rw [h]; decide
    rw [if_neg h0]
    rw [h] at K
    clear F h h0
    obtain ⟨cw, ch, cl, cd, cr, ci, cb, we, ca⟩ := c
    simp only [cfv, cfc] at *
    go_enter Tryz.func80, Tryz.ntmps80
    go_wp2_with fail
    go_at_call 107
    refine (K _).mono ?_
    rintro e v1 ⟨rfl, hb⟩
    have HA1 : Hid (At w _ v1) := A0.out.trans hb
    clear hb K
    go_wp2
    go_ret
    exact ⟨rfl, HA1.out.below⟩

theorem At.drewN {w v : World} {c : Cf} (h : At w c v) (n : Nat) : At w c (v.drewN n) := Below.drewN h n
theorem At.drew {w v : World} {c : Cf} (h : At w c v) : At w c v.drew := Below.drewN h 1

theorem is_any (c : Cf) (n : Int) (w : World) : Calls Tryz.prog 39 #[cfv c, .int .i64 n] w fun e w' => e = .returned (.bool (isN c n)) ∧ Below w.heap.size w w' := by
  have K := nodes_any c
  have I := isBelow_any n (nod c)
  have A0 : Hid (At w c (w.alloc (.cells (cfc c) 23))) := At.start w c
  unfold isN
  generalize nod c = M at *
  generalize (decide (0 ≤ n) && decide (n < M)) = t at *
  obtain ⟨cw, ch, cl, cd, cr, ci, cb, we, ca⟩ := c
  simp only [cfv, cfc] at *
  go_enter Tryz.func39, Tryz.ntmps39
  go_wp2_with fail
  go_at_call 80
  refine (K _).mono ?_
  rintro e v1 ⟨rfl, hb⟩
  have HA1 : Hid (At w _ v1) := A0.out.trans hb
  clear hb K
  go_wp2_with fail
  go_at_call 79
  refine (I _).mono ?_
  rintro e v2 ⟨rfl, rfl⟩
  go_wp2
  go_ret
  exact ⟨rfl, HA1.out.below⟩

theorem place_any (c : Cf) (n : Int) (w : World) : Calls Tryz.prog 138 #[cfv c, .int .i64 n] w fun e w' => e = .returned (.tuple #[.int .i64 (plx c n), .int .i64 (ply c n), .int .i64 (ple c n)]) ∧ Below w.heap.size w w' := by
  have K := is_any c n
  have A0 : Hid (At w c (w.alloc (.cells (cfc c) 23))) := At.start w c
  cases h : isN c n with
  | true =>
    obtain ⟨hc, h0, h1⟩ := isN_ok h
    have f := fits_of hc
    have ex : (n.tmod c.w) = plx c n := by rw [Int.tmod_eq_emod_of_nonneg h0]; unfold plx; rw [if_pos h]
    have ey : (n.tdiv c.w) = ply c n := by rw [Int.tdiv_eq_ediv_of_nonneg h0]; unfold ply; rw [if_pos h]
    have ee : ple c n = 0 := by unfold ple; rw [if_pos h]
    have px := plx_in c n
    have py := ply_in c n
    have w1 := f.w1
    have w2 := f.w2
    have hn := (isN_lt h).2
    rw [ee]
    rw [h] at K
    generalize plx c n = X at *
    generalize ply c n = Y at *
    clear ee hc h1 f h
    obtain ⟨cw, ch, cl, cd, cr, ci, cb, we, ca⟩ := c
    simp only [cfv, cfc] at *
    go_enter Tryz.func138, Tryz.ntmps138
    go_wp2_with fail
    go_at_call 39
    refine (K _).mono ?_
    rintro e v1 ⟨rfl, hb⟩
    have A1 := A0.out.trans hb
    clear hb K
    obtain ⟨x0, -, -, -, -, -, -, -, -⟩ := A1.cells
    have HA1 : Hid (At w _ v1) := A1
    have BB : Hid (∀ n, Below w.heap.size w (v1.drewN n)) := fun n => (A1.drewN n).below
    clear A1
    simp only at x0
    go_wp2_with fail
    go_quiet (fail)
    go_wp2
    go_ret3
    exact ⟨rfl, by first | exact BB.out _ | exact BB.out 1 | exact HA1.out.below⟩
  | false =>
    have ex : plx c n = 0 := by unfold plx; rw [h]; rfl
    have ey : ply c n = 0 := by unfold ply; rw [h]; rfl
    have ee : ple c n = 5 := by unfold ple; rw [h]; rfl
    rw [ex, ey, ee]
    rw [h] at K
    clear ex ey ee h
    obtain ⟨cw, ch, cl, cd, cr, ci, cb, we, ca⟩ := c
    simp only [cfv, cfc] at *
    go_enter Tryz.func138, Tryz.ntmps138
    go_wp2_with fail
    go_at_call 39
    refine (K _).mono ?_
    rintro e v1 ⟨rfl, hb⟩
    have HA1 : Hid (At w _ v1) := A0.out.trans hb
    clear hb K
    go_wp2
    go_ret3
    exact ⟨rfl, HA1.out.below⟩

theorem at_any (c : Cf) (x y : Int) (w : World) : Calls Tryz.prog 139 #[cfv c, .int .i64 x, .int .i64 y] w fun e w' => e = .returned (.tuple #[.int .i64 (atn c x y), .int .i64 (ate c x y)]) ∧ Below w.heap.size w w' := by
  have K := check_any c
  have I := isBelow_any x c.w
  have J := isBelow_any y c.h
  have A0 : Hid (At w c (w.alloc (.cells (cfc c) 23))) := At.start w c
  cases h : inP c x y with
  | true =>
    obtain ⟨hc, h1, h2, h3, h4⟩ := inP_ok h
    obtain ⟨g1, g2, g3, g4⟩ := node_in h
    have f := fits_of hc
    have ea : atn c x y = y * c.w + x := by unfold atn; rw [if_pos h]
    have ee : ate c x y = 0 := by unfold ate; rw [if_pos h]
    rw [ea, ee]
    rw [hc] at K
    rw [show (decide (0 ≤ x) && decide (x < c.w)) = true by simp [h1, h2]] at I
    rw [show (decide (0 ≤ y) && decide (y < c.h)) = true by simp [h3, h4]] at J
    have hx : x ≤ 63 := by have := f.w2; omega
    have hy : y ≤ 63 := by have := f.h2; omega
    clear ea ee hc f h h2 h4 g2 g4
    obtain ⟨cw, ch, cl, cd, cr, ci, cb, we, ca⟩ := c
    simp only [cfv, cfc] at *
    obtain ⟨M, hM⟩ : ∃ M : Int, y * cw = M := ⟨_, rfl⟩
    rw [hM] at g1 g3 ⊢
    have HM : Hid (y * cw = M) := hM
    clear hM
    go_enter Tryz.func139, Tryz.ntmps139
    go_wp2_with fail
    go_at_call 107
    refine (K _).mono ?_
    rintro e v1 ⟨rfl, hb⟩
    have A1 := A0.out.trans hb
    clear hb K
    obtain ⟨x0, x1, -, -, -, -, -, -, -⟩ := A1.cells
    have HA1 : Hid (At w _ v1) := A1
    clear A1
    simp only at x0 x1
    go_wp2_with fail
    go_at_call 79
    refine (I _).mono ?_
    rintro e v2 ⟨rfl, rfl⟩
    go_wp2_with fail
    go_at_call 79
    refine (J _).mono ?_
    rintro e v2 ⟨rfl, rfl⟩
    clear I J
    have hM := HM.out
    go_wp2
    go_ret2
    exact ⟨rfl, HA1.out.below⟩
  | false =>
    have ea : atn c x y = 0 := by unfold atn; rw [h]; rfl
    have ee : ate c x y = 5 := by unfold ate; rw [h]; rfl
    rw [ea, ee]
    clear ea ee
    unfold inP at h
    have h' : chk c = 0 → (decide (0 ≤ x) && decide (x < c.w)) = true → (decide (0 ≤ y) && decide (y < c.h)) = false := fun hc hx => by
      rw [hx] at h
      simpa [hc] using h
    clear h
    rcases chk_cases c with hc | hc | hc
    · have h' := h' hc
      rw [hc] at K
      clear hc
      obtain ⟨cw, ch, cl, cd, cr, ci, cb, we, ca⟩ := c
      simp only [cfv, cfc] at *
      generalize (decide (0 ≤ x) && decide (x < cw)) = s at *
      generalize (decide (0 ≤ y) && decide (y < ch)) = t at *
      cases s with
      | true =>
        obtain rfl := h' rfl
        clear h'
        go_enter Tryz.func139, Tryz.ntmps139
        go_wp2_with fail
        go_at_call 107
        refine (K _).mono ?_
        rintro e v1 ⟨rfl, hb⟩
        have A1 := A0.out.trans hb
        clear hb K
        obtain ⟨x0, x1, -, -, -, -, -, -, -⟩ := A1.cells
        have HA1 : Hid (At w _ v1) := A1
        clear A1
        simp only at x0 x1
        go_wp2_with fail
        go_at_call 79
        refine (I _).mono ?_
        rintro e v2 ⟨rfl, rfl⟩
        go_wp2_with fail
        go_at_call 79
        refine (J _).mono ?_
        rintro e v2 ⟨rfl, rfl⟩
        clear I J
        go_wp2
        go_ret2
        exact ⟨rfl, HA1.out.below⟩
      | false =>
        clear h' J
        go_enter Tryz.func139, Tryz.ntmps139
        go_wp2_with fail
        go_at_call 107
        refine (K _).mono ?_
        rintro e v1 ⟨rfl, hb⟩
        have A1 := A0.out.trans hb
        clear hb K
        obtain ⟨x0, x1, -, -, -, -, -, -, -⟩ := A1.cells
        have HA1 : Hid (At w _ v1) := A1
        clear A1
        simp only at x0 x1
        go_wp2_with fail
        go_at_call 79
        refine (I _).mono ?_
        rintro e v2 ⟨rfl, rfl⟩
        clear I
        go_wp2
        go_ret2
        exact ⟨rfl, HA1.out.below⟩
    all_goals
      rw [hc] at K
      clear h' hc I J
      obtain ⟨cw, ch, cl, cd, cr, ci, cb, we, ca⟩ := c
      simp only [cfv, cfc] at *
      go_enter Tryz.func139, Tryz.ntmps139
      go_wp2_with fail
      go_at_call 107
      refine (K _).mono ?_
      rintro e v1 ⟨rfl, hb⟩
      have HA1 : Hid (At w _ v1) := A0.out.trans hb
      clear hb K
      go_wp2
      go_ret2
      exact ⟨rfl, HA1.out.below⟩

/-- What Label and Node tell. -/
theorem turned_any (c : Cf) (n : Int) (w : World) : Calls Tryz.prog 137 #[cfv c, .int .i64 n] w fun e w' => e = .returned (.tuple #[.int .i64 (lb c n), .int .i64 (ple c n)]) ∧ Below w.heap.size w w' := by
  have K := place_any c n
  have A0 : Hid (At w c (w.alloc (.cells (cfc c) 23))) := At.start w c
  cases h : isN c n with
  | true =>
    have T := at_any c (tx c n) (ply c n)
    obtain ⟨l1, l2⟩ := lb_at h
    have ep : ple c n = 0 := by unfold ple; rw [h]; rfl
    rw [l2] at T
    rw [← l1] at T
    rw [ep] at K ⊢
    clear ep l1 l2
    obtain ⟨_, g1, g2, g3, g4, _⟩ := place_of h
    have hy := (ply_in c n).2
    have hw := (fits_of (place_of h).1).w2
    clear g4 h
    unfold tx at T
    generalize lb c n = R at *
    generalize plx c n = X at *
    generalize ply c n = Y at *
    have hm : Y.tmod 2 = Y % 2 := Int.tmod_eq_emod_of_nonneg g3
    by_cases ho : Y % 2 = 1
    · rw [if_pos ho] at T
      rw [ho] at hm
      obtain ⟨cw, ch, cl, cd, cr, ci, cb, we, ca⟩ := c
      simp only [cfv, cfc] at *
      clear ho
      go_enter Tryz.func137, Tryz.ntmps137
      go_wp2_with fail
      go_at_call 138
      refine (K _).mono ?_
      rintro e v1 ⟨rfl, hb⟩
      have A1 := A0.out.trans hb
      clear hb K
      obtain ⟨x0, x1, x2, x3, x4, x5, x6, x7, x8⟩ := A1.cells
      have HA1 : Hid (At w _ v1) := A1
      clear A1
      simp only at x0 x1 x2 x3 x4 x5 x6 x7 x8
      go_wp2_with fail
      go_at_call 139
      refine (T _).mono ?_
      rintro e v2 ⟨rfl, hb⟩
      have HA2 : Hid (At w _ v2) := HA1.out.trans hb
      clear hb T
      go_wp2
      go_ret2
      exact ⟨rfl, HA2.out.below⟩
    · rw [if_neg ho] at T
      have h0 : Y.tmod 2 = 0 := by omega
      obtain ⟨cw, ch, cl, cd, cr, ci, cb, we, ca⟩ := c
      simp only [cfv, cfc] at *
      clear ho hm
      go_enter Tryz.func137, Tryz.ntmps137
      go_wp2_with fail
      go_at_call 138
      refine (K _).mono ?_
      rintro e v1 ⟨rfl, hb⟩
      have A1 := A0.out.trans hb
      clear hb K
      obtain ⟨x0, x1, x2, x3, x4, x5, x6, x7, x8⟩ := A1.cells
      have HA1 : Hid (At w _ v1) := A1
      clear A1
      simp only at x0 x1 x2 x3 x4 x5 x6 x7 x8
      go_wp2_with fail
      go_at_call 139
      refine (T _).mono ?_
      rintro e v2 ⟨rfl, hb⟩
      have HA2 : Hid (At w _ v2) := HA1.out.trans hb
      clear hb T
      go_wp2
      go_ret2
      exact ⟨rfl, HA2.out.below⟩
  | false =>
    have ex : plx c n = 0 := by unfold plx; rw [h]; rfl
    have ey : ply c n = 0 := by unfold ply; rw [h]; rfl
    have ee : ple c n = 5 := by unfold ple; rw [h]; rfl
    rw [ex, ey, ee] at K
    rw [ee, lb_no h]
    clear ex ey ee h
    obtain ⟨cw, ch, cl, cd, cr, ci, cb, we, ca⟩ := c
    simp only [cfv, cfc] at *
    go_enter Tryz.func137, Tryz.ntmps137
    go_wp2_with fail
    go_at_call 138
    refine (K _).mono ?_
    rintro e v1 ⟨rfl, hb⟩
    have HA1 : Hid (At w _ v1) := A0.out.trans hb
    clear hb K
    go_wp2
    go_ret2
    exact ⟨rfl, HA1.out.below⟩

theorem label_any (c : Cf) (n : Int) (w : World) : Calls Tryz.prog 120 #[cfv c, .int .i64 n] w fun e w' => e = .returned (.tuple #[.int .i64 (lb c n), .int .i64 (ple c n)]) ∧ Below w.heap.size w w' := by
  have K := turned_any c n
  have A0 : Hid (At w c (w.alloc (.cells (cfc c) 23))) := At.start w c
  generalize lb c n = R at *
  generalize ple c n = E at *
  obtain ⟨cw, ch, cl, cd, cr, ci, cb, we, ca⟩ := c
  simp only [cfv, cfc] at *
  go_enter Tryz.func120, Tryz.ntmps120
  go_wp2_with fail
  go_at_call 137
  refine (K _).mono ?_
  rintro e v1 ⟨rfl, hb⟩
  have HA1 : Hid (At w _ v1) := A0.out.trans hb
  clear hb K
  go_wp2
  go_ret2
  exact ⟨rfl, HA1.out.below⟩

end Go.Proofs.YtmmegmonmilkcaaGreatDoor.G.Gr

namespace Go.Proofs.YtmmegmonmilkcaaGreatDoor.G
open Go.RowKit
theorem label_any (c : Cf) (n : Int) (w : World) : Calls Tryz.prog 120 #[cfv c, .int .i64 n] w fun e w' => e = .returned (.tuple #[.int .i64 (lb c n), .int .i64 (ple c n)]) ∧ Below w.heap.size w w' :=
  (Gr.label_any c n w).mono fun _ _ h => ⟨h.1, h.2.plain⟩
end Go.Proofs.YtmmegmonmilkcaaGreatDoor.G

namespace Go.Proofs.YtmmegmonmilkcaaGreatDoor.G
open Go.RowKit

/-- The table of steps holds what the text lays. -/
def Steps (w : World) : Prop := 2 ≤ w.heap.size ∧
  w.cell? ⟨0, 0, none⟩ = some (.int .i64 0) ∧ w.cell? ⟨0, 1, none⟩ = some (.int .i64 0) ∧ w.cell? ⟨0, 2, none⟩ = some (.int .i64 1) ∧ w.cell? ⟨0, 3, none⟩ = some (.int .i64 0) ∧
  w.cell? ⟨0, 4, none⟩ = some (.int .i64 (-1)) ∧ w.cell? ⟨0, 5, none⟩ = some (.int .i64 0) ∧ w.cell? ⟨0, 6, none⟩ = some (.int .i64 0) ∧ w.cell? ⟨0, 7, none⟩ = some (.int .i64 1) ∧
  w.cell? ⟨0, 8, none⟩ = some (.int .i64 0) ∧ w.cell? ⟨0, 9, none⟩ = some (.int .i64 (-1))
theorem Steps.below {w w' : World} {B : Nat} (h : Steps w) (hb : Below B w w') (hB : 2 ≤ B) : Steps w' := by
  have k : ∀ j, w'.cell? ⟨0, j, none⟩ = w.cell? ⟨0, j, none⟩ := fun j => hb.cell (p := ⟨0, j, none⟩) (by show 0 < B; omega)
  unfold Steps at h ⊢
  simp only [k]
  exact ⟨Nat.le_trans h.1 hb.size, h.2⟩
theorem Steps.next {w w' : World} (h : Steps w) (hb : Below w.heap.size w w') : Steps w' := h.below hb h.1
theorem At.steps {w v : World} {c : Cf} (h : At w c v) (hS : Steps w) : Steps v := hS.next h.below

theorem bs_no {c : Cf} {n p : Int} (h : isN c n = false) : bsB c n p = false ∧ bsN c n p = 0 := by
  have e : bsB c n p = false := by unfold bsB; rw [h]; rfl
  exact ⟨e, by unfold bsN; rw [e]; rfl⟩
theorem bs_nop {c : Cf} {n p : Int} (h : isP p = false) : bsB c n p = false ∧ bsN c n p = 0 := by
  have e : bsB c n p = false := by unfold bsB; rw [h]; simp
  exact ⟨e, by unfold bsN; rw [e]; rfl⟩
theorem bs_yes {c : Cf} {n p : Int} (h : isN c n = true) (hp : isP p = true) : bsN c n p = atn c (plx c n + dx p) (ply c n + dy p) ∧ bsB c n p = (ate c (plx c n + dx p) (ply c n + dy p) == 0) := by
  have e : bsB c n p = inP c (plx c n + dx p) (ply c n + dy p) := by unfold bsB; rw [h, hp]; simp
  refine ⟨by unfold bsN atn; rw [e], ?_⟩
  rw [e]
  unfold ate
  cases inP c (plx c n + dx p) (ply c n + dy p) <;> rfl
theorem pl_no {c : Cf} {n : Int} (h : isN c n = false) : plx c n = 0 ∧ ply c n = 0 ∧ ple c n = 5 := by
  unfold plx ply ple
  rw [h]
  exact ⟨rfl, rfl, rfl⟩
theorem pl_yes {c : Cf} {n : Int} (h : isN c n = true) : ple c n = 0 := by unfold ple; rw [h]; rfl

set_option maxHeartbeats 1000000 in
theorem beside_any (c : Cf) (n p : Int) (w : World) (hS : Steps w) : Calls Tryz.prog 121 #[cfv c, .int .i64 n, .int .i64 p] w fun e w' => e = .returned (.tuple #[.int .i64 (bsN c n p), .bool (bsB c n p)]) ∧ Below w.heap.size w w' := by
  have K := place_any c n
  have I := isBelow_any p 5
  change ∀ w, Calls _ _ _ _ (fun e w' => e = .returned (.bool (isP p)) ∧ _) at I
  have A0 : Hid (At w c (w.alloc (.cells (cfc c) 23))) := At.start w c
  have HS : Hid (Steps w) := hS
  clear hS
  cases h : isN c n with
  | false =>
    rw [(bs_no (p := p) h).1, (bs_no (p := p) h).2]
    rw [(pl_no h).1, (pl_no h).2.1, (pl_no h).2.2] at K
    clear I h HS
    obtain ⟨cw, ch, cl, cd, cr, ci, cb, we, ca⟩ := c
    simp only [cfv, cfc] at *
    go_enter Tryz.func121, Tryz.ntmps121
    go_wp2_with fail
    go_at_call 138
    refine (K _).mono ?_
    rintro e v1 ⟨rfl, hb⟩
    have HA1 : Hid (At w _ v1) := A0.out.trans hb
    clear hb K
    go_wp2
    go_ret2
    exact ⟨rfl, HA1.out.below⟩
  | true =>
    have px := plx_in c n
    have py := ply_in c n
    cases hp : isP p with
    | false =>
      rw [(bs_nop (c := c) (n := n) hp).1, (bs_nop (c := c) (n := n) hp).2]
      rw [pl_yes h] at K
      rw [hp] at I
      clear hp h HS
      generalize plx c n = X at *
      generalize ply c n = Y at *
      obtain ⟨cw, ch, cl, cd, cr, ci, cb, we, ca⟩ := c
      simp only [cfv, cfc] at *
      go_enter Tryz.func121, Tryz.ntmps121
      go_wp2_with fail
      go_at_call 138
      refine (K _).mono ?_
      rintro e v1 ⟨rfl, hb⟩
      have HA1 : Hid (At w _ v1) := A0.out.trans hb
      clear hb K
      go_wp2_with fail
      go_at_call 79
      refine (I _).mono ?_
      rintro e v2 ⟨rfl, rfl⟩
      go_wp2
      go_ret2
      exact ⟨rfl, HA1.out.below⟩
    | true =>
      have T := at_any c (plx c n + dx p) (ply c n + dy p)
      rw [(bs_yes h hp).1, (bs_yes h hp).2]
      rw [pl_yes h] at K
      rw [hp] at I
      have hp' := (isP_iff p).1 hp
      generalize atn c (plx c n + dx p) (ply c n + dy p) = R at *
      generalize ate c (plx c n + dx p) (ply c n + dy p) = E at *
      clear hp h
      generalize plx c n = X at *
      generalize ply c n = Y at *
      rcases hp' with rfl | rfl | rfl | rfl | rfl
      · rw [show dx 0 = 0 from rfl, show dy 0 = 0 from rfl, Int.add_zero, Int.add_zero] at T
        obtain ⟨cw, ch, cl, cd, cr, ci, cb, we, ca⟩ := c
        simp only [cfv, cfc] at *
        go_enter Tryz.func121, Tryz.ntmps121
        go_wp2_with fail
        go_at_call 138
        refine (K _).mono ?_
        rintro e v1 ⟨rfl, hb⟩
        have HA1 : Hid (At w _ v1) := A0.out.trans hb
        clear hb K
        obtain ⟨z, s0, s1, s2, s3, s4, s5, s6, s7, s8, s9⟩ := HA1.out.steps HS.out
        go_wp2_with fail
        go_at_call 79
        refine (I _).mono ?_
        rintro e v2 ⟨rfl, rfl⟩
        clear I
        obtain ⟨x0, x1, x2, x3, x4, x5, x6, x7, x8⟩ := HA1.out.cells
        have hz : w.heap.size < v1.heap.size := by have := HA1.out.size; omega
        simp only at x0 x1 x2 x3 x4 x5 x6 x7 x8
        go_wp2_with fail
        go_at_call 139
        refine (T _).mono ?_
        rintro e v3 ⟨rfl, hb⟩
        have HB : Hid (Below w.heap.size w v3) := ((HA1.out.alloc _).trans hb).below
        clear hb
        go_wp2
        go_ret2
        exact ⟨rfl, HB.out⟩
      · rw [show dx 1 = 1 from rfl, show dy 1 = 0 from rfl, Int.add_zero] at T
        obtain ⟨cw, ch, cl, cd, cr, ci, cb, we, ca⟩ := c
        simp only [cfv, cfc] at *
        go_enter Tryz.func121, Tryz.ntmps121
        go_wp2_with fail
        go_at_call 138
        refine (K _).mono ?_
        rintro e v1 ⟨rfl, hb⟩
        have HA1 : Hid (At w _ v1) := A0.out.trans hb
        clear hb K
        obtain ⟨z, s0, s1, s2, s3, s4, s5, s6, s7, s8, s9⟩ := HA1.out.steps HS.out
        go_wp2_with fail
        go_at_call 79
        refine (I _).mono ?_
        rintro e v2 ⟨rfl, rfl⟩
        clear I
        obtain ⟨x0, x1, x2, x3, x4, x5, x6, x7, x8⟩ := HA1.out.cells
        have hz : w.heap.size < v1.heap.size := by have := HA1.out.size; omega
        simp only at x0 x1 x2 x3 x4 x5 x6 x7 x8
        go_wp2_with fail
        go_at_call 139
        refine (T _).mono ?_
        rintro e v3 ⟨rfl, hb⟩
        have HB : Hid (Below w.heap.size w v3) := ((HA1.out.alloc _).trans hb).below
        clear hb
        go_wp2
        go_ret2
        exact ⟨rfl, HB.out⟩
      · rw [show dx 2 = -1 from rfl, show dy 2 = 0 from rfl, Int.add_zero] at T
        obtain ⟨cw, ch, cl, cd, cr, ci, cb, we, ca⟩ := c
        simp only [cfv, cfc] at *
        go_enter Tryz.func121, Tryz.ntmps121
        go_wp2_with fail
        go_at_call 138
        refine (K _).mono ?_
        rintro e v1 ⟨rfl, hb⟩
        have HA1 : Hid (At w _ v1) := A0.out.trans hb
        clear hb K
        obtain ⟨z, s0, s1, s2, s3, s4, s5, s6, s7, s8, s9⟩ := HA1.out.steps HS.out
        go_wp2_with fail
        go_at_call 79
        refine (I _).mono ?_
        rintro e v2 ⟨rfl, rfl⟩
        clear I
        obtain ⟨x0, x1, x2, x3, x4, x5, x6, x7, x8⟩ := HA1.out.cells
        have hz : w.heap.size < v1.heap.size := by have := HA1.out.size; omega
        simp only at x0 x1 x2 x3 x4 x5 x6 x7 x8
        go_wp2_with fail
        go_at_call 139
        refine (T _).mono ?_
        rintro e v3 ⟨rfl, hb⟩
        have HB : Hid (Below w.heap.size w v3) := ((HA1.out.alloc _).trans hb).below
        clear hb
        go_wp2
        go_ret2
        exact ⟨rfl, HB.out⟩
      · rw [show dx 3 = 0 from rfl, show dy 3 = 1 from rfl, Int.add_zero] at T
        obtain ⟨cw, ch, cl, cd, cr, ci, cb, we, ca⟩ := c
        simp only [cfv, cfc] at *
        go_enter Tryz.func121, Tryz.ntmps121
        go_wp2_with fail
        go_at_call 138
        refine (K _).mono ?_
        rintro e v1 ⟨rfl, hb⟩
        have HA1 : Hid (At w _ v1) := A0.out.trans hb
        clear hb K
        obtain ⟨z, s0, s1, s2, s3, s4, s5, s6, s7, s8, s9⟩ := HA1.out.steps HS.out
        go_wp2_with fail
        go_at_call 79
        refine (I _).mono ?_
        rintro e v2 ⟨rfl, rfl⟩
        clear I
        obtain ⟨x0, x1, x2, x3, x4, x5, x6, x7, x8⟩ := HA1.out.cells
        have hz : w.heap.size < v1.heap.size := by have := HA1.out.size; omega
        simp only at x0 x1 x2 x3 x4 x5 x6 x7 x8
        go_wp2_with fail
        go_at_call 139
        refine (T _).mono ?_
        rintro e v3 ⟨rfl, hb⟩
        have HB : Hid (Below w.heap.size w v3) := ((HA1.out.alloc _).trans hb).below
        clear hb
        go_wp2
        go_ret2
        exact ⟨rfl, HB.out⟩
      · rw [show dx 4 = 0 from rfl, show dy 4 = -1 from rfl, Int.add_zero] at T
        obtain ⟨cw, ch, cl, cd, cr, ci, cb, we, ca⟩ := c
        simp only [cfv, cfc] at *
        go_enter Tryz.func121, Tryz.ntmps121
        go_wp2_with fail
        go_at_call 138
        refine (K _).mono ?_
        rintro e v1 ⟨rfl, hb⟩
        have HA1 : Hid (At w _ v1) := A0.out.trans hb
        clear hb K
        obtain ⟨z, s0, s1, s2, s3, s4, s5, s6, s7, s8, s9⟩ := HA1.out.steps HS.out
        go_wp2_with fail
        go_at_call 79
        refine (I _).mono ?_
        rintro e v2 ⟨rfl, rfl⟩
        clear I
        obtain ⟨x0, x1, x2, x3, x4, x5, x6, x7, x8⟩ := HA1.out.cells
        have hz : w.heap.size < v1.heap.size := by have := HA1.out.size; omega
        simp only at x0 x1 x2 x3 x4 x5 x6 x7 x8
        go_wp2_with fail
        go_at_call 139
        refine (T _).mono ?_
        rintro e v3 ⟨rfl, hb⟩
        have HB : Hid (Below w.heap.size w v3) := ((HA1.out.alloc _).trans hb).below
        clear hb
        go_wp2
        go_ret2
        exact ⟨rfl, HB.out⟩
end Go.Proofs.YtmmegmonmilkcaaGreatDoor.G

namespace Go.Proofs.YtmmegmonmilkcaaGreatDoor.G
open Go.RowKit

theorem stB_not {c : Cf} {a t : Int} (h : (isN c a && isN c t) = false) : stp c a t = 0 ∧ stB c a t = false := by
  unfold stp stB
  rw [h]
  exact ⟨rfl, rfl⟩
theorem stK_yes {c : Cf} {a g : Int} {k : Nat} (h : nea c a g (stK c a g k).2 (k : Int) = true) : (stK c a g (k + 1)).1 = k ∧ (stK c a g (k + 1)).2 = lb c (bsN c a (k : Int)) := by
  simp only [stK]
  rw [if_pos h]
  exact ⟨rfl, rfl⟩
theorem stK_no {c : Cf} {a g : Int} {k : Nat} (h : nea c a g (stK c a g k).2 (k : Int) = false) : (stK c a g (k + 1)).1 = (stK c a g k).1 ∧ (stK c a g (k + 1)).2 = (stK c a g k).2 := by
  simp only [stK]
  rw [if_neg (by rw [h]; decide)]
  exact ⟨rfl, rfl⟩

set_option maxRecDepth 100000 in
set_option maxHeartbeats 1000000 in
theorem step_any (c : Cf) (a t : Int) (w : World) (hS : Steps w) : Calls Tryz.prog 94 #[cfv c, .int .i64 a, .int .i64 t] w fun e w' => e = .returned (.tuple #[.int .i64 (stp c a t), .bool (stB c a t)]) ∧ Below w.heap.size w w' := by
  have A0 : Hid (At w c (w.alloc (.cells (cfc c) 23))) := At.start w c
  have K1 := label_any c a
  have K2 := label_any c t
  have HS : Hid (Steps w) := hS
  clear hS
  cases ha : isN c a with
  | false =>
    obtain ⟨e1, e2⟩ := stB_not (c := c) (a := a) (t := t) (by rw [ha]; rfl)
    rw [e1, e2]
    rw [(pl_no ha).2.2] at K1
    clear e1 e2 ha
    generalize lb c a = la at *
    generalize lb c t = lt at *
    generalize ple c t = pt at *
    obtain ⟨cw, ch, cl, cd, cr, ci, cb, we, ca⟩ := c
    simp only [cfv, cfc] at *
    go_enter Tryz.func94, Tryz.ntmps94
    go_wp2_with fail
    go_at_call 120
    refine (K1 _).mono ?_
    rintro e v1 ⟨rfl, hb⟩
    have HA1 : Hid (At w _ v1) := A0.out.trans hb
    clear hb K1 A0
    obtain ⟨x0, x1, x2, x3, x4, x5, x6, x7, x8⟩ := HA1.out.cells
    simp only at x0 x1 x2 x3 x4 x5 x6 x7 x8
    go_wp2_with fail
    go_at_call 120
    refine (K2 _).mono ?_
    rintro e v2 ⟨rfl, hb⟩
    have HA2 : Hid (At w _ v2) := HA1.out.trans hb
    clear hb K2 HA1 x0 x1 x2 x3 x4 x5 x6 x7 x8
    go_wp2
    go_ret2
    exact ⟨rfl, HA2.out.below⟩
  | true =>
    rw [pl_yes ha] at K1
    cases ht : isN c t with
    | false =>
      obtain ⟨e1, e2⟩ := stB_not (c := c) (a := a) (t := t) (by rw [ha, ht]; rfl)
      rw [e1, e2]
      rw [(pl_no ht).2.2] at K2
      clear e1 e2 ha ht
      generalize lb c a = la at *
      generalize lb c t = lt at *
      obtain ⟨cw, ch, cl, cd, cr, ci, cb, we, ca⟩ := c
      simp only [cfv, cfc] at *
      go_enter Tryz.func94, Tryz.ntmps94
      go_wp2_with fail
      go_at_call 120
      refine (K1 _).mono ?_
      rintro e v1 ⟨rfl, hb⟩
      have HA1 : Hid (At w _ v1) := A0.out.trans hb
      clear hb K1 A0
      obtain ⟨x0, x1, x2, x3, x4, x5, x6, x7, x8⟩ := HA1.out.cells
      simp only at x0 x1 x2 x3 x4 x5 x6 x7 x8
      go_wp2_with fail
      go_at_call 120
      refine (K2 _).mono ?_
      rintro e v2 ⟨rfl, hb⟩
      have HA2 : Hid (At w _ v2) := HA1.out.trans hb
      clear hb K2 HA1 x0 x1 x2 x3 x4 x5 x6 x7 x8
      go_wp2
      go_ret2
      exact ⟨rfl, HA2.out.below⟩
    | true =>
      rw [pl_yes ht] at K2
      have e1 : stp c a t = (stK c a (lb c t) 5).1 := by unfold stp; rw [ha, ht]; rfl
      have e2 : stB c a t = true := by unfold stB; rw [ha, ht]; rfl
      rw [e1, e2]
      have S0 : (stK c a (lb c t) 0).1 = 0 ∧ (stK c a (lb c t) 0).2 = lb c a := ⟨rfl, rfl⟩
      have SY := fun k => @stK_yes c a (lb c t) k
      have SN := fun k => @stK_no c a (lb c t) k
      have NI := fun m p => @nea_iff c a (lb c t) m p
      have BE := fun (k : Nat) v h => beside_any c a (k : Int) v h
      have LA := fun n => label_any c n
      have PB := fun p h => (@step_ok c a p h).2.2.2.1
      have LR := fun p => lb_in c (bsN c a p)
      have SR := fun k => stK_in c a (lb c t) k
      have PL := fun p h => pl_yes (PB p h)
      have GR := lb_in c t
      clear e1 e2 ha ht PB
      generalize lb c t = g at *
      obtain ⟨SS, hSS⟩ : ∃ SS : Nat → Int, ∀ k, (stK c a g k).1 = SS k := ⟨fun k => (stK c a g k).1, fun _ => rfl⟩
      obtain ⟨SM, hSM⟩ : ∃ SM : Nat → Int, ∀ k, (stK c a g k).2 = SM k := ⟨fun k => (stK c a g k).2, fun _ => rfl⟩
      simp only [hSS, hSM] at *
      clear hSS hSM
      generalize nea c a g = NE at *
      generalize bsN c a = M at *
      generalize bsB c a = G at *
      generalize lb c = LB at *
      generalize ple c = PE at *
      have HSY : Hid (∀ k : Nat, NE (SM k) (k : Int) = true → SS (k + 1) = k ∧ SM (k + 1) = LB (M (k : Int))) := SY
      have HSN : Hid (∀ k : Nat, NE (SM k) (k : Int) = false → SS (k + 1) = SS k ∧ SM (k + 1) = SM k) := SN
      have HNI : Hid (∀ m p : Int, NE m p = true ↔ G p = true ∧ ((m < LB (M p) ∧ LB (M p) ≤ g) ∨ (g ≤ LB (M p) ∧ LB (M p) < m))) := NI
      have HLR : Hid (∀ p : Int, 0 ≤ LB (M p) ∧ LB (M p) < 4096) := LR
      have HSR : Hid (∀ k : Nat, 0 ≤ SS k ∧ SS k ≤ k ∧ 0 ≤ SM k ∧ SM k < 4096) := SR
      have HPL : Hid (∀ p : Int, G p = true → PE (M p) = 0) := PL
      have HS0 : Hid (SS 0 = 0 ∧ SM 0 = LB a) := S0
      clear SY SN NI LR SR PL S0
      obtain ⟨cw, ch, cl, cd, cr, ci, cb, we, ca⟩ := c
      simp only [cfv, cfc] at *
      go_enter Tryz.func94, Tryz.ntmps94
      go_wp2_with fail
      go_at_call 120
      refine (K1 _).mono ?_
      rintro e v1 ⟨rfl, hb⟩
      have HA1 : Hid (At w _ v1) := A0.out.trans hb
      clear hb K1 A0
      obtain ⟨x0, x1, x2, x3, x4, x5, x6, x7, x8⟩ := HA1.out.cells
      simp only at x0 x1 x2 x3 x4 x5 x6 x7 x8
      go_wp2_with fail
      go_at_call 120
      refine (K2 _).mono ?_
      rintro e v2 ⟨rfl, hb⟩
      have HA2 : Hid (At w _ v2) := HA1.out.trans hb
      clear hb K2 HA1 x0 x1 x2 x3 x4 x5 x6 x7 x8
      generalize LB a = la0 at *
      go_wp2_with fail
      go_loopw [8, 12, 36] (fun s8 s12 s36 wr => ∃ k : Nat, k ≤ 5 ∧ s36 = .int .i64 k ∧ s8 = .int .i64 (SM k) ∧ s12 = .int .i64 (SS k) ∧ At w ⟨cw, ch, cl, cd, cr, ci, cb, we, ca⟩ wr) (fun _ _ i _ => 5 - (RowKit.intOf i).toNat)
      case atStart => exact ⟨0, by omega, rfl, by rw [HS0.out.2], by rw [HS0.out.1], HA2.out⟩
      case round =>
        obtain ⟨k, hk, rfl, rfl, rfl, hat⟩ := hrel
        have HAT : Hid (At w ⟨cw, ch, cl, cd, cr, ci, cb, we, ca⟩ wr) := hat
        clear hat
        by_cases hlt : k < 5
        · have hltz : (k : Int) < 5 := by omega
          obtain ⟨x0, x1, x2, x3, x4, x5, x6, x7, x8⟩ := HAT.out.cells
          simp only at x0 x1 x2 x3 x4 x5 x6 x7 x8
          have K3 := BE k wr (HAT.out.steps HS.out)
          have K4 := LA (M (k : Int))
          have y1 := HSY.out k
          have y2 := HSN.out k
          have y3 := HNI.out (SM k) k
          have y4 := HPL.out k
          have y5 := HLR.out k
          have y6 := HSR.out k
          have q8 : SS (k + 1) = SS (k + 1) := rfl
          clear BE LA
          generalize hSk : SM k = m at *
          generalize hPk : SS k = s at *
          generalize LB (M (k : Int)) = L at *
          generalize PE (M (k : Int)) = pe at *
          generalize M (k : Int) = mk at *
          generalize NE m (k : Int) = ne at *
          cases hG : G (k : Int) with
          | false =>
            rw [hG] at K3 y3
            have n1 : ne = false := by
              cases ne with
              | false => rfl
              | true => have := (y3.1 rfl).1; cases this
            have q := y2 n1
            have HQ : Hid (SS (k + 1) = s ∧ SM (k + 1) = m) := q
            clear y1 y2 y3 y4 y5 y6 q n1 hG K4 hSk hPk q8
            go_wp2_with fail
            go_at_call 121
            refine K3.mono ?_
            rintro e wa ⟨rfl, hb⟩
            have HAT2 : Hid (At w ⟨cw, ch, cl, cd, cr, ci, cb, we, ca⟩ wa) := HAT.out.trans hb
            clear hb HAT K3 x0 x1 x2 x3 x4 x5 x6 x7 x8
            go_wp2
            go_roundw
            case rel => exact ⟨k + 1, by omega, by go_num, by rw [HQ.out.2], by rw [HQ.out.1], HAT2.out⟩
            case measure => simp [RowKit.intOf]; omega
          | true =>
            rw [hG] at K3 y3 y4
            rw [y4 rfl] at K4
            clear y4 hG q8
            by_cases h1 : m < L
            · by_cases h2 : L ≤ g
              · have n1 : ne = true := by
                  exact y3.2 ⟨rfl, by omega⟩
                have HQ : Hid (SS (k + 1) = k ∧ SM (k + 1) = L) := y1 n1
                clear y1 y2 y3 y6 n1 hSk hPk
                go_wp2_with fail
                go_at_call 121
                refine K3.mono ?_
                rintro e wa ⟨rfl, hb⟩
                have HAT2 : Hid (At w ⟨cw, ch, cl, cd, cr, ci, cb, we, ca⟩ wa) := HAT.out.trans hb
                clear hb HAT K3 x0 x1 x2 x3 x4 x5 x6 x7 x8
                obtain ⟨x0, x1, x2, x3, x4, x5, x6, x7, x8⟩ := HAT2.out.cells
                simp only at x0 x1 x2 x3 x4 x5 x6 x7 x8
                go_wp2_with fail
                go_at_call 120
                refine (K4 _).mono ?_
                rintro e wb ⟨rfl, hb⟩
                have HAT3 : Hid (At w ⟨cw, ch, cl, cd, cr, ci, cb, we, ca⟩ wb) := HAT2.out.trans hb
                clear hb HAT2 K4 x0 x1 x2 x3 x4 x5 x6 x7 x8
                go_wp2
                go_roundw
                case rel => exact ⟨k + 1, by omega, by go_num, by rw [HQ.out.2], by rw [HQ.out.1], HAT3.out⟩
                case measure => simp [RowKit.intOf]; omega
              · have h3 : g ≤ L := by omega
                have h4 : ¬ L < m := by omega
                have n1 : ne = false := by
                  cases ne with
                  | false => rfl
                  | true => have := (y3.1 rfl).2; omega
                have HQ : Hid (SS (k + 1) = s ∧ SM (k + 1) = m) := y2 n1
                clear y1 y2 y3 y6 n1 hSk hPk
                go_wp2_with fail
                go_at_call 121
                refine K3.mono ?_
                rintro e wa ⟨rfl, hb⟩
                have HAT2 : Hid (At w ⟨cw, ch, cl, cd, cr, ci, cb, we, ca⟩ wa) := HAT.out.trans hb
                clear hb HAT K3 x0 x1 x2 x3 x4 x5 x6 x7 x8
                obtain ⟨x0, x1, x2, x3, x4, x5, x6, x7, x8⟩ := HAT2.out.cells
                simp only at x0 x1 x2 x3 x4 x5 x6 x7 x8
                go_wp2_with fail
                go_at_call 120
                refine (K4 _).mono ?_
                rintro e wb ⟨rfl, hb⟩
                have HAT3 : Hid (At w ⟨cw, ch, cl, cd, cr, ci, cb, we, ca⟩ wb) := HAT2.out.trans hb
                clear hb HAT2 K4 x0 x1 x2 x3 x4 x5 x6 x7 x8
                go_wp2
                go_roundw
                case rel => exact ⟨k + 1, by omega, by go_num, by rw [HQ.out.2], by rw [HQ.out.1], HAT3.out⟩
                case measure => simp [RowKit.intOf]; omega
            · by_cases h2 : g ≤ L
              · by_cases h3 : L < m
                · have n1 : ne = true := by
                    exact y3.2 ⟨rfl, by omega⟩
                  have HQ : Hid (SS (k + 1) = k ∧ SM (k + 1) = L) := y1 n1
                  clear y1 y2 y3 y6 n1 hSk hPk
                  go_wp2_with fail
                  go_at_call 121
                  refine K3.mono ?_
                  rintro e wa ⟨rfl, hb⟩
                  have HAT2 : Hid (At w ⟨cw, ch, cl, cd, cr, ci, cb, we, ca⟩ wa) := HAT.out.trans hb
                  clear hb HAT K3 x0 x1 x2 x3 x4 x5 x6 x7 x8
                  obtain ⟨x0, x1, x2, x3, x4, x5, x6, x7, x8⟩ := HAT2.out.cells
                  simp only at x0 x1 x2 x3 x4 x5 x6 x7 x8
                  go_wp2_with fail
                  go_at_call 120
                  refine (K4 _).mono ?_
                  rintro e wb ⟨rfl, hb⟩
                  have HAT3 : Hid (At w ⟨cw, ch, cl, cd, cr, ci, cb, we, ca⟩ wb) := HAT2.out.trans hb
                  clear hb HAT2 K4 x0 x1 x2 x3 x4 x5 x6 x7 x8
                  go_wp2
                  go_roundw
                  case rel => exact ⟨k + 1, by omega, by go_num, by rw [HQ.out.2], by rw [HQ.out.1], HAT3.out⟩
                  case measure => simp [RowKit.intOf]; omega
                · have n1 : ne = false := by
                    cases ne with
                    | false => rfl
                    | true => have := (y3.1 rfl).2; omega
                  have HQ : Hid (SS (k + 1) = s ∧ SM (k + 1) = m) := y2 n1
                  clear y1 y2 y3 y6 n1 hSk hPk
                  go_wp2_with fail
                  go_at_call 121
                  refine K3.mono ?_
                  rintro e wa ⟨rfl, hb⟩
                  have HAT2 : Hid (At w ⟨cw, ch, cl, cd, cr, ci, cb, we, ca⟩ wa) := HAT.out.trans hb
                  clear hb HAT K3 x0 x1 x2 x3 x4 x5 x6 x7 x8
                  obtain ⟨x0, x1, x2, x3, x4, x5, x6, x7, x8⟩ := HAT2.out.cells
                  simp only at x0 x1 x2 x3 x4 x5 x6 x7 x8
                  go_wp2_with fail
                  go_at_call 120
                  refine (K4 _).mono ?_
                  rintro e wb ⟨rfl, hb⟩
                  have HAT3 : Hid (At w ⟨cw, ch, cl, cd, cr, ci, cb, we, ca⟩ wb) := HAT2.out.trans hb
                  clear hb HAT2 K4 x0 x1 x2 x3 x4 x5 x6 x7 x8
                  go_wp2
                  go_roundw
                  case rel => exact ⟨k + 1, by omega, by go_num, by rw [HQ.out.2], by rw [HQ.out.1], HAT3.out⟩
                  case measure => simp [RowKit.intOf]; omega
              · have n1 : ne = false := by
                  cases ne with
                  | false => rfl
                  | true => have := (y3.1 rfl).2; omega
                have HQ : Hid (SS (k + 1) = s ∧ SM (k + 1) = m) := y2 n1
                clear y1 y2 y3 y6 n1 hSk hPk
                go_wp2_with fail
                go_at_call 121
                refine K3.mono ?_
                rintro e wa ⟨rfl, hb⟩
                have HAT2 : Hid (At w ⟨cw, ch, cl, cd, cr, ci, cb, we, ca⟩ wa) := HAT.out.trans hb
                clear hb HAT K3 x0 x1 x2 x3 x4 x5 x6 x7 x8
                obtain ⟨x0, x1, x2, x3, x4, x5, x6, x7, x8⟩ := HAT2.out.cells
                simp only at x0 x1 x2 x3 x4 x5 x6 x7 x8
                go_wp2_with fail
                go_at_call 120
                refine (K4 _).mono ?_
                rintro e wb ⟨rfl, hb⟩
                have HAT3 : Hid (At w ⟨cw, ch, cl, cd, cr, ci, cb, we, ca⟩ wb) := HAT2.out.trans hb
                clear hb HAT2 K4 x0 x1 x2 x3 x4 x5 x6 x7 x8
                go_wp2
                go_roundw
                case rel => exact ⟨k + 1, by omega, by go_num, by rw [HQ.out.2], by rw [HQ.out.1], HAT3.out⟩
                case measure => simp [RowKit.intOf]; omega
        · have hltz : ¬ (k : Int) < 5 := by omega
          obtain rfl : k = 5 := by omega
          go_wp2
          go_ret2
          exact ⟨rfl, HAT.out.below⟩
end Go.Proofs.YtmmegmonmilkcaaGreatDoor.G

namespace Go.Proofs.YtmmegmonmilkcaaGreatDoor.G

/-- How much x and y of the destination are more. -/
def ox (c : Cf) (a b : Int) : Int := plx c b - plx c a
def oy (c : Cf) (a b : Int) : Int := ply c b - ply c a
/-- Along y. -/
def optY (d : Int) : List Int := if 0 < d then [3] else if d < 0 then [4] else []
/-- The ports by which a packet may go. -/
def opt (c : Cf) (a b : Int) : List Int :=
  if (isN c a && isN c b) = true then
    if a = b then [0] else if ox c a b < 0 then [2] else if 0 < ox c a b then (1 :: if c.we = true then optY (oy c a b) else []) else optY (oy c a b)
  else []
/-- A choice's distance from 0, or from -1. -/
def chAbs (k : Int) : Int := if k < 0 then -(k + 1) else k
def chP (l : List Int) (k : Int) : Int := if l.length = 0 then 0 else l.getD ((chAbs k) % (l.length : Int)).toNat 0
def chB (l : List Int) : Bool := decide (l.length ≠ 0)
/-- Whether a packet that came through a port may leave by another one. -/
def alw (f t : Int) : Bool :=
  if (isP f && isP t) = true then (if f = 0 ∨ t = 0 then true else if t = 2 then decide (f = 2) else decide (f ≠ bck t)) else false
/-- The way along x first. -/
def strX (d : Int) : List Int := if d < 0 then List.replicate (-d).toNat 2 else List.replicate d.toNat 1
def strY (d : Int) : List Int := if d < 0 then List.replicate (-d).toNat 4 else List.replicate d.toNat 3
def str (c : Cf) (a b : Int) : List Int := if (isN c a && isN c b) = true then strX (ox c a b) ++ (strY (oy c a b) ++ [0]) else []

theorem opt_self {c : Cf} {a : Int} (h : isN c a = true) : opt c a a = [0] := by unfold opt; rw [h]; simp
theorem opt_no {c : Cf} {a b : Int} (h : (isN c a && isN c b) = false) : opt c a b = [] := by unfold opt; rw [h]; rfl

theorem chAbs_in {k : Int} (h1 : -9223372036854775808 ≤ k) (h2 : k ≤ 9223372036854775807) : 0 ≤ chAbs k ∧ chAbs k ≤ 9223372036854775807 := by unfold chAbs; split <;> omega
theorem chP_mem {l : List Int} (h : l.length ≠ 0) (k : Int) : chP l k ∈ l := by
  unfold chP
  rw [if_neg h]
  have h0 : 0 ≤ chAbs k % (l.length : Int) := Int.emod_nonneg _ (by omega)
  have h1 : chAbs k % (l.length : Int) < l.length := Int.emod_lt_of_pos _ (by omega)
  have hl : (chAbs k % (l.length : Int)).toNat < l.length := by omega
  rw [List.getD_eq_getElem?_getD, List.getElem?_eq_getElem hl]
  exact List.getElem_mem _

/-- What an option of two nodes that are not one is. -/
theorem opt_cases {c : Cf} {a b p : Int} (ha : isN c a = true) (hb : isN c b = true) (hne : a ≠ b) (h : p ∈ opt c a b) :
    (p = 2 ∧ ox c a b < 0) ∨ (p = 1 ∧ 0 < ox c a b) ∨ (p = 3 ∧ 0 ≤ ox c a b ∧ 0 < oy c a b) ∨ (p = 4 ∧ 0 ≤ ox c a b ∧ oy c a b < 0) := by
  unfold opt at h
  rw [ha, hb] at h
  simp only [Bool.and_self, if_true, if_neg hne] at h
  have hy : ∀ d, p ∈ optY d → (p = 3 ∧ 0 < d) ∨ (p = 4 ∧ d < 0) := fun d hd => by
    unfold optY at hd
    split at hd
    · simp at hd; omega
    · split at hd
      · simp at hd; omega
      · cases hd
  split at h
  · simp at h; omega
  · split at h
    · rw [List.mem_cons] at h
      rcases h with rfl | h
      · omega
      · split at h
        · have := hy _ h
          omega
        · cases h
    · have := hy _ h
      omega

theorem off_zero {c : Cf} {a b : Int} (ha : isN c a = true) (hb : isN c b = true) (hne : a ≠ b) : ¬ (ox c a b = 0 ∧ oy c a b = 0) := fun ⟨h1, h2⟩ => by
  unfold ox at h1
  unfold oy at h2
  exact hne (node_eq ha hb (by omega) (by omega))

theorem optY_len (d : Int) : (optY d).length ≤ 1 ∧ (d ≠ 0 → (optY d).length = 1) ∧ (d = 0 → optY d = []) := by
  unfold optY
  refine ⟨?_, fun h => ?_, fun h => ?_⟩
  · split
    · simp
    · split <;> simp
  · split
    · rfl
    · rw [if_pos (by omega)]; rfl
  · rw [if_neg (by omega), if_neg (by omega)]

/-- One option at least, and two at most. -/
theorem opt_len {c : Cf} {a b : Int} (ha : isN c a = true) (hb : isN c b = true) : 1 ≤ (opt c a b).length ∧ (opt c a b).length ≤ 2 ∧ (c.we = false → (opt c a b).length = 1) := by
  unfold opt
  rw [ha, hb]
  simp only [Bool.and_self, if_true]
  by_cases hne : a = b
  · rw [if_pos hne]; simp
  · rw [if_neg hne]
    have z := off_zero ha hb hne
    have y := optY_len (oy c a b)
    split
    · simp
    · split
      · cases c.we
        · simp
        · simp; omega
      · have : (optY (oy c a b)).length = 1 := y.2.1 (by omega)
        omega
/-- Two options are not one. -/
theorem opt_two {c : Cf} {a b p q : Int} (h : opt c a b = [p, q]) : p ≠ q := by
  unfold opt at h
  have hy : ∀ d, optY d ≠ [p, q] := fun d e => by
    have := (optY_len d).1
    rw [e] at this
    simp at this
  split at h
  · split at h
    · simp at h
    · split at h
      · simp at h
      · split at h
        · rw [List.cons.injEq] at h
          obtain ⟨rfl, h⟩ := h
          split at h
          · unfold optY at h
            split at h
            · simp at h; omega
            · split at h
              · simp at h; omega
              · simp at h
          · simp at h
        · exact absurd h (hy _)
  · simp at h

/-- P6.2: each option leads one step nearer. -/
theorem opt_near {c : Cf} {a b p : Int} (ha : isN c a = true) (hb : isN c b = true) (hne : a ≠ b) (h : p ∈ opt c a b) :
    p ≠ 0 ∧ bsB c a p = true ∧ fr c (bsN c a p) b = fr c a b - 1 := by
  have hc := opt_cases ha hb hne h
  obtain ⟨_, a1, a2, a3, a4, _⟩ := place_of ha
  obtain ⟨_, b1, b2, b3, b4, _⟩ := place_of hb
  unfold ox oy at hc
  have hp : p = 1 ∨ p = 2 ∨ p = 3 ∨ p = 4 := by omega
  have hs : bsB c a p = true := by
    have d : (p = 1 ∧ dx p = 1 ∧ dy p = 0) ∨ (p = 2 ∧ dx p = -1 ∧ dy p = 0) ∨ (p = 3 ∧ dx p = 0 ∧ dy p = 1) ∨ (p = 4 ∧ dx p = 0 ∧ dy p = -1) := by
      rcases hp with rfl | rfl | rfl | rfl <;> decide
    exact step_mk ha ((isP_iff p).2 (by omega)) (by omega) (by omega) (by omega) (by omega)
  obtain ⟨_, _, _, s4, s5, s6⟩ := step_ok hs
  refine ⟨by omega, hs, ?_⟩
  rw [fr_ok s4 hb, fr_ok ha hb, s5, s6]
  unfold btw
  rcases hp with rfl | rfl | rfl | rfl
  · rw [show dx 1 = 1 from rfl, show dy 1 = 0 from rfl]; split <;> split <;> split <;> omega
  · rw [show dx 2 = -1 from rfl, show dy 2 = 0 from rfl]; split <;> split <;> split <;> omega
  · rw [show dx 3 = 0 from rfl, show dy 3 = 1 from rfl]; split <;> split <;> split <;> omega
  · rw [show dx 4 = 0 from rfl, show dy 4 = -1 from rfl]; split <;> split <;> split <;> omega

/-- What the last port says of where a packet is. -/
def Went (c : Cf) (last a b : Int) : Prop :=
  last = 0 ∨ (last = 1 ∧ 0 ≤ ox c a b) ∨ (last = 2 ∧ ox c a b ≤ 0) ∨ (last = 3 ∧ 0 ≤ ox c a b ∧ 0 ≤ oy c a b) ∨ (last = 4 ∧ 0 ≤ ox c a b ∧ oy c a b ≤ 0)
/-- P6.2: a packet that goes by options takes allowed turns alone. -/
theorem went_ok {c : Cf} {last a b p : Int} (ha : isN c a = true) (hb : isN c b = true) (hne : a ≠ b) (hw : Went c last a b) (h : p ∈ opt c a b) : alw last p = true := by
  have hc := opt_cases ha hb hne h
  have hp : p = 1 ∨ p = 2 ∨ p = 3 ∨ p = 4 := by omega
  have hl : last = 0 ∨ last = 1 ∨ last = 2 ∨ last = 3 ∨ last = 4 := by unfold Went at hw; omega
  unfold Went at hw
  rcases hp with rfl | rfl | rfl | rfl <;> rcases hl with rfl | rfl | rfl | rfl | rfl <;> first | decide | (exfalso; omega)
theorem went_next {c : Cf} {a b p : Int} (ha : isN c a = true) (hb : isN c b = true) (hne : a ≠ b) (h : p ∈ opt c a b) : Went c p (bsN c a p) b := by
  have hc := opt_cases ha hb hne h
  obtain ⟨_, hs, _⟩ := opt_near ha hb hne h
  obtain ⟨_, _, _, s4, s5, s6⟩ := step_ok hs
  unfold Went
  unfold ox oy at *
  rw [s5, s6]
  rcases hc with ⟨rfl, _⟩ | ⟨rfl, _⟩ | ⟨rfl, _⟩ | ⟨rfl, _⟩
  · rw [show dx 2 = -1 from rfl]; omega
  · rw [show dx 1 = 1 from rfl]; omega
  · rw [show dx 3 = 0 from rfl, show dy 3 = 1 from rfl]; omega
  · rw [show dx 4 = 0 from rfl, show dy 4 = -1 from rfl]; omega

/-- Nothing but which options there are hangs on how packets go. -/
theorem chk_we (c : Cf) (t : Bool) : chk { c with we := t } = chk c := rfl
theorem isN_we (c : Cf) (t : Bool) (n : Int) : isN { c with we := t } n = isN c n := rfl
theorem plx_we (c : Cf) (t : Bool) (n : Int) : plx { c with we := t } n = plx c n := rfl
theorem ply_we (c : Cf) (t : Bool) (n : Int) : ply { c with we := t } n = ply c n := rfl
theorem bsB_we (c : Cf) (t : Bool) (n p : Int) : bsB { c with we := t } n p = bsB c n p := rfl
theorem bsN_we (c : Cf) (t : Bool) (n p : Int) : bsN { c with we := t } n p = bsN c n p := rfl
theorem fr_we (c : Cf) (t : Bool) (a b : Int) : fr { c with we := t } a b = fr c a b := rfl
theorem str_we (c : Cf) (t : Bool) (a b : Int) : str { c with we := t } a b = str c a b := rfl

theorem strX_neg {d : Int} (h : d < 0) : strX d = 2 :: strX (d - -1) := by
  obtain ⟨k, hk⟩ : ∃ k : Nat, -d = k + 1 := ⟨(-d - 1).toNat, by omega⟩
  unfold strX
  rw [if_pos h, show (-d).toNat = k + 1 by omega, List.replicate_succ]
  by_cases h2 : d - -1 < 0
  · rw [if_pos h2, show (-(d - -1)).toNat = k by omega]
  · rw [if_neg h2, show (d - -1).toNat = 0 by omega, show k = 0 by omega]
    rfl
theorem strX_pos {d : Int} (h : 0 < d) : strX d = 1 :: strX (d - 1) := by
  obtain ⟨k, hk⟩ : ∃ k : Nat, d = k + 1 := ⟨(d - 1).toNat, by omega⟩
  unfold strX
  rw [if_neg (by omega : ¬ d < 0), if_neg (by omega : ¬ d - 1 < 0), show d.toNat = k + 1 by omega, List.replicate_succ, show (d - 1).toNat = k by omega]
theorem strY_neg {d : Int} (h : d < 0) : strY d = 4 :: strY (d - -1) := by
  obtain ⟨k, hk⟩ : ∃ k : Nat, -d = k + 1 := ⟨(-d - 1).toNat, by omega⟩
  unfold strY
  rw [if_pos h, show (-d).toNat = k + 1 by omega, List.replicate_succ]
  by_cases h2 : d - -1 < 0
  · rw [if_pos h2, show (-(d - -1)).toNat = k by omega]
  · rw [if_neg h2, show (d - -1).toNat = 0 by omega, show k = 0 by omega]
    rfl
theorem strY_pos {d : Int} (h : 0 < d) : strY d = 3 :: strY (d - 1) := by
  obtain ⟨k, hk⟩ : ∃ k : Nat, d = k + 1 := ⟨(d - 1).toNat, by omega⟩
  unfold strY
  rw [if_neg (by omega : ¬ d < 0), if_neg (by omega : ¬ d - 1 < 0), show d.toNat = k + 1 by omega, List.replicate_succ, show (d - 1).toNat = k by omega]

/-- The way along x first begins with the option, and goes on from where it leads. -/
theorem str_self {c : Cf} {a : Int} (ha : isN c a = true) : str c a a = [0] := by
  unfold str
  rw [ha]
  unfold ox oy strX strY
  simp
theorem str_step {c : Cf} {a b p : Int} (ha : isN c a = true) (hb : isN c b = true) (hne : a ≠ b) (h : opt { c with we := false } a b = [p]) : str c a b = p :: str c (bsN c a p) b := by
  have hm : p ∈ opt { c with we := false } a b := by rw [h]; simp
  have hn := opt_near (c := { c with we := false }) ha hb hne hm
  have hs : bsB c a p = true := hn.2.1
  obtain ⟨_, _, _, s4, s5, s6⟩ := step_ok hs
  have hc : (p = 2 ∧ ox c a b < 0) ∨ (p = 1 ∧ 0 < ox c a b) ∨ (p = 3 ∧ ox c a b = 0 ∧ 0 < oy c a b) ∨ (p = 4 ∧ ox c a b = 0 ∧ oy c a b < 0) := by
    have h1 := opt_cases (c := { c with we := false }) ha hb hne hm
    have e1 : ox { c with we := false } a b = ox c a b := rfl
    have e2 : oy { c with we := false } a b = oy c a b := rfl
    rw [e1, e2] at h1
    have h2 : 0 < ox c a b → p = 1 := fun hx => by
      unfold opt at h
      have e0 : (isN { c with we := false } a && isN { c with we := false } b) = true := by
        show (isN c a && isN c b) = true
        rw [ha, hb]
        rfl
      rw [e0, if_pos rfl, if_neg hne, e1, if_neg (by omega), if_pos hx] at h
      simp at h
      exact h.symm
    omega
  unfold str
  rw [ha, hb, s4]
  simp only [Bool.and_self, if_true]
  have ex : ox c (bsN c a p) b = ox c a b - dx p := by unfold ox; rw [s5]; omega
  have ey : oy c (bsN c a p) b = oy c a b - dy p := by unfold oy; rw [s6]; omega
  rw [ex, ey]
  generalize ox c a b = X at *
  generalize oy c a b = Y at *
  rcases hc with ⟨rfl, h1⟩ | ⟨rfl, h1⟩ | ⟨rfl, h1, h2⟩ | ⟨rfl, h1, h2⟩
  · rw [show dx 2 = -1 from rfl, show dy 2 = 0 from rfl, Int.sub_zero, strX_neg h1]; rfl
  · rw [show dx 1 = 1 from rfl, show dy 1 = 0 from rfl, Int.sub_zero, strX_pos h1]; rfl
  · rw [show dx 3 = 0 from rfl, show dy 3 = 1 from rfl, Int.sub_zero, h1, strY_pos h2]; rfl
  · rw [show dx 4 = 0 from rfl, show dy 4 = -1 from rfl, Int.sub_zero, h1, strY_neg h2]; rfl

theorem strX_len (d : Int) : ((strX d).length : Int) = btw 0 d := by
  unfold strX btw
  split
  · rw [if_neg (by omega), List.length_replicate]; omega
  · rw [if_pos (by omega), List.length_replicate]; omega
theorem strY_len (d : Int) : ((strY d).length : Int) = btw 0 d := by
  unfold strY btw
  split
  · rw [if_neg (by omega), List.length_replicate]; omega
  · rw [if_pos (by omega), List.length_replicate]; omega
theorem str_len {c : Cf} {a b : Int} (ha : isN c a = true) (hb : isN c b = true) : ((str c a b).length : Int) = fr c a b + 1 := by
  unfold str
  rw [ha, hb]
  simp only [Bool.and_self, if_true, List.length_append, List.length_cons, List.length_nil]
  have h1 := strX_len (ox c a b)
  have h2 := strY_len (oy c a b)
  have e1 : btw 0 (ox c a b) = btw (plx c a) (plx c b) := by unfold btw ox; split <;> split <;> omega
  have e2 : btw 0 (oy c a b) = btw (ply c a) (ply c b) := by unfold btw oy; split <;> split <;> omega
  rw [fr_ok ha hb]
  omega
theorem str_last {c : Cf} {a b : Int} (ha : isN c a = true) (hb : isN c b = true) : ∃ l, str c a b = l ++ [0] := by
  unfold str
  rw [ha, hb]
  exact ⟨strX (ox c a b) ++ strY (oy c a b), by simp⟩

/-- It turns once at most: behind the last step along x. -/
theorem strX_form (d : Int) : ∃ n v, strX d = List.replicate n v := by unfold strX; split <;> exact ⟨_, _, rfl⟩
theorem strY_form (d : Int) : ∃ n v, strY d = List.replicate n v := by unfold strY; split <;> exact ⟨_, _, rfl⟩
theorem str_same {c : Cf} {a b : Int} (ha : isN c a = true) (hb : isN c b = true) (i : Nat) (hi : i + 2 < (str c a b).length) (hne : i + 1 ≠ (strX (ox c a b)).length) :
    (str c a b).getD i 0 = (str c a b).getD (i + 1) 0 := by
  unfold str at hi ⊢
  rw [ha, hb] at hi ⊢
  simp only [Bool.and_self, if_true] at hi ⊢
  obtain ⟨n, v, hx⟩ := strX_form (ox c a b)
  obtain ⟨m, u, hy⟩ := strY_form (oy c a b)
  rw [hx, hy] at hi ⊢
  rw [hx] at hne
  simp only [List.length_append, List.length_replicate, List.length_cons, List.length_nil] at hi hne
  have g : ∀ j, j < n → (List.replicate n v ++ (List.replicate m u ++ [0])).getD j 0 = v := fun j hj => by
    rw [List.getD_eq_getElem?_getD, List.getElem?_append_left (by simpa using hj), List.getElem?_replicate, if_pos hj]
    rfl
  have k : ∀ j, n ≤ j → j < n + m → (List.replicate n v ++ (List.replicate m u ++ [0])).getD j 0 = u := fun j h1 h2 => by
    rw [List.getD_eq_getElem?_getD, List.getElem?_append_right (by simpa using h1), List.length_replicate, List.getElem?_append_left (by simp; omega), List.getElem?_replicate, if_pos (by omega)]
    rfl
  rcases Nat.lt_or_ge i n with h | h
  · rw [g i h, g (i + 1) (by omega)]
  · rw [k i h (by omega), k (i + 1) (by omega) (by omega)]

/-- Both ways of going: one option along x first, which is the first one west first, and the way's first step; two just if it may go East, and North or South. -/
theorem ways {c : Cf} {a b : Int} (ha : isN c a = true) (hb : isN c b = true) :
    ∃ p l r, opt { c with we := false } a b = [p] ∧ opt { c with we := true } a b = p :: l ∧ str c a b = p :: r ∧ (l.length = 1 ↔ (plx c a < plx c b ∧ ply c b ≠ ply c a)) ∧ l.length ≤ 1 := by
  have ha0 : isN { c with we := false } a = true := ha
  have hb0 : isN { c with we := false } b = true := hb
  have ha1 : isN { c with we := true } a = true := ha
  have hb1 : isN { c with we := true } b = true := hb
  by_cases hne : a = b
  · subst hne
    exact ⟨0, [], [], opt_self ha0, opt_self ha1, str_self ha, by simp, by simp⟩
  · have hl := (opt_len ha0 hb0).2.2 rfl
    obtain ⟨p, hp⟩ : ∃ p, opt { c with we := false } a b = [p] := List.length_eq_one_iff.1 hl
    have hs := str_step ha hb hne hp
    have e1 : ∀ t, ox { c with we := t } a b = ox c a b := fun _ => rfl
    have e2 : ∀ t, oy { c with we := t } a b = oy c a b := fun _ => rfl
    have i0 : (isN { c with we := false } a && isN { c with we := false } b) = true := by rw [ha0, hb0]; rfl
    have i1 : (isN { c with we := true } a && isN { c with we := true } b) = true := by rw [ha1, hb1]; rfl
    have y := optY_len (oy c a b)
    unfold opt at hp
    rw [i0, if_pos rfl, if_neg hne, e1, e2] at hp
    have w : ∀ l, opt { c with we := true } a b = p :: l ↔ (if ox c a b < 0 then [2] else if 0 < ox c a b then (1 :: optY (oy c a b)) else optY (oy c a b)) = p :: l := fun l => by
      unfold opt
      rw [i1, if_pos rfl, if_neg hne, e1, e2]
      simp
    by_cases h1 : ox c a b < 0
    · rw [if_pos h1] at hp
      have : p = 2 := by simpa using hp.symm
      subst this
      refine ⟨2, [], _, by unfold opt; rw [i0, if_pos rfl, if_neg hne, e1, if_pos h1], (w []).2 (by rw [if_pos h1]), hs, ?_, by simp⟩
      unfold ox at h1
      simp
      omega
    · rw [if_neg h1] at hp
      by_cases h2 : 0 < ox c a b
      · rw [if_pos h2] at hp
        have : p = 1 := by simpa using hp.symm
        subst this
        refine ⟨1, optY (oy c a b), _, by unfold opt; rw [i0, if_pos rfl, if_neg hne, e1, if_neg h1, if_pos h2]; simp, (w _).2 (by rw [if_neg h1, if_pos h2]), hs, ?_, y.1⟩
        constructor
        · intro h
          refine ⟨by unfold ox at h2; omega, fun e => ?_⟩
          have := y.2.2 (by unfold oy; omega)
          rw [this] at h
          simp at h
        · intro h
          exact y.2.1 (by unfold oy; omega)
      · rw [if_neg h2] at hp
        refine ⟨p, [], _, by unfold opt; rw [i0, if_pos rfl, if_neg hne, e1, e2, if_neg h1, if_neg h2]; exact hp, (w []).2 (by rw [if_neg h1, if_neg h2]; exact hp), hs, ?_, by simp⟩
        unfold ox at h2
        simp
        omega
end Go.Proofs.YtmmegmonmilkcaaGreatDoor.G

namespace Go.Proofs.YtmmegmonmilkcaaGreatDoor.G
open Go.RowKit

/-- The tables hold what the text lays. -/
def Tabs (w : World) : Prop := 2 < w.heap.size ∧
  (w.cell? ⟨1, 0, none⟩ = some (.int .i64 2) ∧ w.cell? ⟨1, 1, none⟩ = some (.int .i64 0) ∧ w.cell? ⟨1, 2, none⟩ = some (.int .i64 1)) ∧
  (w.cell? ⟨2, 0, none⟩ = some (.int .i64 4) ∧ w.cell? ⟨2, 1, none⟩ = some (.int .i64 0) ∧ w.cell? ⟨2, 2, none⟩ = some (.int .i64 3)) ∧ True
theorem Tabs.below {w w' : World} {B : Nat} (h : Tabs w) (hb : Below B w w') (hB : 2 < B) : Tabs w' := by
  have k : ∀ g j, g ≤ 2 → w'.cell? ⟨g, j, none⟩ = w.cell? ⟨g, j, none⟩ := fun g j hg => hb.cell (p := ⟨g, j, none⟩) (by show g < B; omega)
  unfold Tabs at h ⊢
  simp only [k 1 _ (by omega), k 2 _ (by omega)]
  exact ⟨Nat.lt_of_lt_of_le h.1 hb.size, h.2⟩
theorem Tabs.next {w w' : World} (h : Tabs w) (hb : Below w.heap.size w w') : Tabs w' := h.below hb h.1
theorem At.tabs {w v : World} {c : Cf} (h : At w c v) (hS : Tabs w) : Tabs v := hS.next h.below

/-- How two numbers compare. -/
def cmp (a b : Int) : Int := if a < b then -1 else if b < a then 1 else 0

theorem isNaN_any (a : Int) (w : World) : Calls Tryz.prog 165 #[.int .i64 a] w fun e w' => e = .returned (.bool false) ∧ w = w' := by
  go_enter Tryz.func165, Tryz.ntmps165
  go_wp2
  go_ret
  exact ⟨rfl, rfl⟩

theorem compare_any (a b : Int) (w : World) : Calls Tryz.prog 153 #[.int .i64 a, .int .i64 b] w fun e w' => e = .returned (.int .i64 (cmp a b)) ∧ w = w' := by
  have K1 := isNaN_any a
  have K2 := isNaN_any b
  unfold cmp
  by_cases h1 : a < b
  · rw [if_pos h1]
    go_enter Tryz.func153, Tryz.ntmps153
    go_wp2_with fail
    go_at_call 165
    refine (K1 _).mono ?_
    rintro e v1 ⟨rfl, rfl⟩
    go_wp2_with fail
    go_at_call 165
    refine (K2 _).mono ?_
    rintro e v1 ⟨rfl, rfl⟩
    go_wp2
    go_ret
    exact ⟨rfl, rfl⟩
  · rw [if_neg h1]
    by_cases h2 : b < a
    · rw [if_pos h2]
      go_enter Tryz.func153, Tryz.ntmps153
      go_wp2_with fail
      go_at_call 165
      refine (K1 _).mono ?_
      rintro e v1 ⟨rfl, rfl⟩
      go_wp2_with fail
      go_at_call 165
      refine (K2 _).mono ?_
      rintro e v1 ⟨rfl, rfl⟩
      go_wp2
      go_ret
      exact ⟨rfl, rfl⟩
    · rw [if_neg h2]
      go_enter Tryz.func153, Tryz.ntmps153
      go_wp2_with fail
      go_at_call 165
      refine (K1 _).mono ?_
      rintro e v1 ⟨rfl, rfl⟩
      go_wp2_with fail
      go_at_call 165
      refine (K2 _).mono ?_
      rintro e v1 ⟨rfl, rfl⟩
      go_wp2
      go_ret
      exact ⟨rfl, rfl⟩
end Go.Proofs.YtmmegmonmilkcaaGreatDoor.G

namespace Go.Proofs.YtmmegmonmilkcaaGreatDoor.G
open Go.RowKit

theorem lt_of_heap {w : World} {b : Nat} {x : Obj} (h : w.heap[b]? = some x) : b < w.heap.size := by
  rcases Nat.lt_or_ge b w.heap.size with h' | h'
  · exact h'
  · rw [Array.getElem?_eq_none h'] at h; cases h
theorem cell_of {w : World} {b : Nat} {c : Array Value} {t : TypeId} {fr : Nat × Nat} (h : w.heap[b]? = some (.cells c t fr)) (k : Nat) : w.cell? ⟨b, k, none⟩ = c[k]? := by
  simp [World.cell?, h]

/-- A slice that reads as these values: in one block. -/
def Rd (w : World) (a : Option Addr) (vs : List Value) : Prop :=
  ∀ (j : Nat) (v : Value), vs[j]? = some v → ∃ g, a = some ⟨g, 0, none⟩ ∧ g < w.heap.size ∧ w.cell? ⟨g, j, none⟩ = some v
theorem Rd.keep {w w' : World} {a : Option Addr} {vs : List Value} (h : Rd w a vs) (hs : w.heap.size ≤ w'.heap.size) (hk : ∀ g, g < w.heap.size → w'.heap[g]? = w.heap[g]?) : Rd w' a vs := fun j v hj => by
  obtain ⟨g, h1, h2, h3⟩ := h j v hj
  exact ⟨g, h1, by omega, by rw [World.cell?_of_block (hk g h2)]; exact h3⟩
theorem Rd.below {w w' : World} {a : Option Addr} {vs : List Value} (h : Rd w a vs) (b : Below w.heap.size w w') : Rd w' a vs := h.keep b.size (fun g hg => b.block g hg)
theorem Rd.alloc {w : World} {a : Option Addr} {vs : List Value} (h : Rd w a vs) (o : Obj) : Rd (w.alloc o) a vs := h.keep (by simp) (fun g hg => Below.heap_alloc _ _ _ hg)

def Own (e : TypeId) (w : World) (B : Nat) (v : Value) (l : List Value) : Prop := w.ownsRow B e 1 v l.length l
theorem Own.rd {t : TypeId} {w : World} {B : Nat} {v : Value} {l : List Value} (h : Own t w B v l) : ∃ a cap, v = .slice a l.length cap ∧ l.length ≤ cap ∧ cap ≤ maxLen ∧ Rd w a l := by
  obtain ⟨h1, h2⟩ := h
  rcases h2 with ⟨rfl, h2⟩ | ⟨g, cap, cur, rfl, hg, hh, hc1, hc2, hc3, hc4⟩
  · refine ⟨none, 0, by rw [h2], by omega, by simp [maxLen], fun j v hj => ?_⟩
    have : l = [] := List.eq_nil_of_length_eq_zero h2
    subst this
    cases hj
  · refine ⟨_, _, rfl, hc1, hc2, fun j v hj => ⟨g, rfl, lt_of_heap hh, ?_⟩⟩
    have hlt : j < l.length * 1 := by
      have := (List.getElem?_eq_some_iff.mp hj).1
      rw [← h1]; exact this
    rw [cell_of hh]
    have : cur[j]? = (List.take (l.length * 1) cur.toList)[j]? := by rw [List.getElem?_take_of_lt hlt]; simp
    rw [this, hc4]
    exact hj
/-- A row that is not empty: its block. -/
theorem Own.form {e : TypeId} {w : World} {B : Nat} {v : Value} {l : List Value} (h : Own e w B v l) (hl : 0 < l.length) :
    ∃ g cap, v = .slice (some ⟨g, 0, none⟩) l.length cap ∧ l.length ≤ cap ∧ cap ≤ maxLen ∧ B ≤ g ∧ g < w.heap.size ∧ ∀ j x, l[j]? = some x → w.cell? ⟨g, j, none⟩ = some x := by
  have h0 := h
  obtain ⟨h1, h2⟩ := h
  rcases h2 with ⟨rfl, h2⟩ | ⟨g, cap, cur, rfl, hg, hh, hc1, hc2, hc3, hc4⟩
  · omega
  · refine ⟨g, cap, rfl, hc1, hc2, hg, lt_of_heap hh, fun j x hj => ?_⟩
    obtain ⟨a, cap', e, _, _, hr⟩ := h0.rd
    obtain ⟨g', e', _, hc⟩ := hr j x hj
    simp only [Value.slice.injEq] at e
    obtain ⟨e, _⟩ := e
    rw [e'] at e
    simp only [Option.some.injEq, Addr.mk.injEq] at e
    obtain ⟨rfl, _⟩ := e
    exact hc
theorem Own.snoc {t : TypeId} {w : World} {B : Nat} {v x : Value} {l : List Value} (h : w.ownsRow B t 1 v (l.length + 1) (l ++ [x])) : Own t w B v (l ++ [x]) := by
  unfold Own
  simpa using h
theorem Own.nil (w : World) (B : Nat) (e : TypeId) : Own e w B (.slice none 0 0) [] := World.ownsRow_nil w B e 1
theorem Own.mono {e : TypeId} {w : World} {B B' : Nat} {v : Value} {l : List Value} (h : Own e w B v l) (hb : B' ≤ B) : Own e w B' v l := by
  refine ⟨h.1, ?_⟩
  rcases h.2 with hn | ⟨g, cap, cur, e, hg, r⟩
  · exact Or.inl hn
  · exact Or.inr ⟨g, cap, cur, e, Nat.le_trans hb hg, r⟩
theorem Own.below {e : TypeId} {w w' : World} {B : Nat} {v : Value} {l : List Value} (h : Own e w B v l) (hb : Below w.heap.size w w') : Own e w' B v l := by
  refine ⟨h.1, ?_⟩
  rcases h.2 with hn | ⟨g, cap, cur, e, hg, hh, r⟩
  · exact Or.inl hn
  · exact Or.inr ⟨g, cap, cur, e, hg, by rw [hb.block g (lt_of_heap hh)]; exact hh, r⟩
/-- Written out. -/
theorem Own.lit {e : TypeId} {w : World} {B : Nat} (xs : Array Value) (hb : B ≤ w.heap.size) (hn : xs.size ≤ 1000) : Own e (w.alloc (.cells xs e)) B (.slice (some ⟨w.heap.size, 0, none⟩) xs.size xs.size) xs.toList := by
  have h := World.ownsRow_lit (e := e) (size := 1) (base := B) w xs xs.size hb (by unfold maxLen; omega) (by simp)
  unfold Own
  simpa using h
theorem own_ne {w : World} {B : Nat} {e t : TypeId} {v : Value} {l : List Value} {g : Nat} {C : Array Value} {fr : Nat × Nat} (h : Own e w B v l) (hg : w.heap[g]? = some (.cells C t fr)) (hne : e ≠ t) : v.ownBlock ≠ some g := by
  rcases h.2 with ⟨rfl, _⟩ | ⟨g', cap, cur, rfl, _, hh, _⟩
  · simp [Value.ownBlock]
  · intro he
    have : g' = g := by simpa [Value.ownBlock] using he
    subst this
    rw [hg] at hh
    injection hh with hh
    injection hh with _ ht
    exact hne ht.symm
theorem own_two {w : World} {B : Nat} {e t : TypeId} {v u : Value} {l k : List Value} (h : Own e w B v l) (h' : Own t w B u k) (hne : t ≠ e) : u.ownBlock = none ∨ u.ownBlock ≠ v.ownBlock := by
  rcases h'.2 with ⟨rfl, _⟩ | ⟨g', cap, cur, rfl, _, hh, _⟩
  · exact Or.inl rfl
  · refine Or.inr fun c => own_ne h hh (fun x => hne x.symm) ?_
    rw [← c]; rfl

/-- What an append of the call's own leaves as it was. -/
def Kept (e : TypeId) (B : Nat) (w w' : World) : Prop :=
  w.heap.size ≤ w'.heap.size ∧ (∀ A, Below B A w → Below B A w') ∧
  (∀ (t : TypeId) (v : Value) (l : List Value), t ≠ e → Own t w B v l → Own t w' B v l) ∧
  (∀ (g : Nat) (C : Array Value) (t : TypeId) (fr : Nat × Nat), t ≠ e → w.heap[g]? = some (Obj.cells C t fr) → w'.heap[g]? = some (Obj.cells C t fr))

theorem wpList_app_one {P : Program} {ops : Array Oper} {rest : List Oper} {o : Oper} {a : Act} {Q : Exit → Act → World → Prop} (hgd : o.guard = none) (s x : Operand) (t e : TypeId) (i : TypeInfo) (z : Value) (bytes : Nat)
    (ho : o.op = .call { callee := .builtin .append, args := #[s, x], argTypes := #[t, t] })
    (ht : P.underlying t = some (.slice e)) (hi : P.info? e = some i) (hz : i.zero = some z) (h1 : i.size = 1) (hby : i.bytes = bytes) (hzs : z.cells.size = 1) (hb8 : bytes ≤ 64)
    (B : Nat) (w : World) (v : Value) (L : List Value) (u : Value) (hs : a.eval s = v) (hown : Own e w B v L) (hx : a.eval x = .slice (some ⟨w.heap.size, 0, none⟩) 1 1) (hu : u.oneCell' = true)
    (hlen : L.length ≤ 1000000) (hbase : B ≤ w.heap.size)
    (h : ∀ v' w', Own e w' B v' (L ++ [u]) → Kept e B w w' → wpList P ops Q rest (a.put o.dst v') w') :
    wpList P ops Q (o :: rest) a (w.alloc (.cells #[u] e)) := by
  refine wpList_append_own _ hgd s x t ho B e i z 1 bytes ht hi hz h1 hby hzs (by decide) v L.length L hs (World.ownsRow.alloc hown _) ⟨w.heap.size, 0, none⟩ 1 1 [u] hx rfl ?_ ?_ ?_ ?_ ?_ ?_
  · intro j y hj
    match j, hj with
    | 0, hj => simp at hj; subst hj; exact (World.cell?_alloc_at _ _ _ _ rfl).trans rfl
  · intro y hy; simp at hy; subst hy; exact hu
  · unfold maxLen; omega
  · have : (L.length + 1) * bytes ≤ (L.length + 1) * 64 := Nat.mul_le_mul_left _ hb8
    omega
  · simp; omega
  · intro v' w' hown' hgrow _
    have hsz : (w.alloc (.cells #[u] e)).heap.size ≤ w'.heap.size := (hgrow.size : _)
    simp at hsz
    refine h v' w' (Own.snoc hown') ⟨by omega, fun A hA => ?_, fun t' v2 l2 hne h2 => ?_, fun g C t' fr hne hg => ?_⟩
    · exact Below.grown (hA.alloc hbase _) hgrow (by simp; omega) (fun q hq => (World.ownsRow.lt hown q hq).1)
    · exact World.ownsRow.kept (World.ownsRow.alloc h2 _) hgrow (own_two hown h2 hne)
    · rw [hgrow.block g (by have := lt_of_heap hg; simp; omega) (fun c => own_ne hown hg (fun x => hne x.symm) c.symm), Below.heap_alloc _ _ _ (lt_of_heap hg)]
      exact hg
end Go.Proofs.YtmmegmonmilkcaaGreatDoor.G

namespace Go.Proofs.YtmmegmonmilkcaaGreatDoor.G
open Go.RowKit

theorem At.of {w v : World} {c : Cf} (h : Below (w.heap.size + 1) (w.alloc (.cells (cfc c) 23)) v) : At w c v := h

def vi (l : List Int) : List Value := l.map fun n => .int .i64 n
theorem vi_len (l : List Int) : (vi l).length = l.length := by simp [vi]
theorem vi_snoc (l : List Int) (n : Int) : vi l ++ [.int .i64 n] = vi (l ++ [n]) := by simp [vi]
theorem vi_at {l : List Int} {k : Nat} (h : k < l.length) : (vi l)[k]? = some (.int .i64 (l.getD k 0)) := by simp [vi, h]

/-- A list of numbers is answered, in new memory. -/
def Row (w : World) (l : List Int) (e : Ending) (w' : World) : Prop := ∃ v, e = .returned v ∧ Own 3 w' w.heap.size v (vi l) ∧ Below w.heap.size w w'
theorem Row.mk {w w' : World} {l : List Int} {v : Value} (h : Own 3 w' w.heap.size v (vi l)) (hb : Below w.heap.size w w') : Row w l (.returned v) w' := ⟨v, rfl, h, hb⟩

theorem Tryz.info3 : (Tryz.prog.info? 3).map (fun i => (i.zero, i.size, i.bytes)) = some (some (.int .i64 0), 1, 8) := by kernel_rfl

end Go.Proofs.YtmmegmonmilkcaaGreatDoor.G

namespace Go.Proofs.YtmmegmonmilkcaaGreatDoor.G
open Go.RowKit

/-- The ports that lead nearer along x and along y. -/
def tox (d : Int) : Int := if d < 0 then 2 else if 0 < d then 1 else 0
def toy (d : Int) : Int := if d < 0 then 4 else if 0 < d then 3 else 0
def twB (c : Cf) (a b : Int) : Bool := isN c a && isN c b
def twX (c : Cf) (a b : Int) : Int := if twB c a b = true then tox (ox c a b) else 0
def twY (c : Cf) (a b : Int) : Int := if twB c a b = true then toy (oy c a b) else 0

theorem cmp_tox (a b : Int) : (cmp b a = -1 ∧ tox (b - a) = 2 ∧ toy (b - a) = 4) ∨ (cmp b a = 0 ∧ tox (b - a) = 0 ∧ toy (b - a) = 0) ∨ (cmp b a = 1 ∧ tox (b - a) = 1 ∧ toy (b - a) = 3) := by
  unfold cmp tox toy
  rcases Int.lt_trichotomy b a with h | h | h
  · left; rw [if_pos h, if_pos (by omega), if_pos (by omega)]; exact ⟨rfl, rfl, rfl⟩
  · right; left; rw [if_neg (by omega), if_neg (by omega), if_neg (by omega), if_neg (by omega), if_neg (by omega), if_neg (by omega)]; exact ⟨rfl, rfl, rfl⟩
  · right; right; rw [if_neg (by omega), if_pos h, if_neg (by omega), if_pos (by omega), if_neg (by omega), if_pos (by omega)]; exact ⟨rfl, rfl, rfl⟩

set_option maxHeartbeats 1000000 in
theorem toward_any (c : Cf) (a b : Int) (w : World) (hT : Tabs w) : Calls Tryz.prog 140 #[cfv c, .int .i64 a, .int .i64 b] w fun e w' => e = .returned (.tuple #[.int .i64 (twX c a b), .int .i64 (twY c a b), .bool (twB c a b)]) ∧ Below w.heap.size w w' := by
  have K1 := place_any c a
  have K2 := place_any c b
  have C1 := compare_any (plx c b) (plx c a)
  have C2 := compare_any (ply c b) (ply c a)
  have A0 : Hid (At w c (w.alloc (.cells (cfc c) 23))) := At.start w c
  have HT : Hid (Tabs w) := hT
  clear hT
  cases h1 : isN c a with
  | false =>
    rw [show twB c a b = false by unfold twB; rw [h1]; rfl, show twX c a b = 0 by unfold twX twB; rw [h1]; rfl, show twY c a b = 0 by unfold twY twB; rw [h1]; rfl]
    rw [(pl_no h1).1, (pl_no h1).2.1, (pl_no h1).2.2] at K1
    clear C1 C2 h1
    generalize plx c b = X at *
    generalize ply c b = Y at *
    generalize ple c b = E at *
    obtain ⟨cw, ch, cl, cd, cr, ci, cb, we, ca⟩ := c
    simp only [cfv, cfc] at *
    go_enter Tryz.func140, Tryz.ntmps140
    go_wp2_with fail
    go_at_call 138
    refine (K1 _).mono ?_
    rintro e v1 ⟨rfl, hb⟩
    have A1 := A0.out.trans hb
    clear hb K1
    obtain ⟨x0, x1, x2, x3, x4, x5, x6, x7, x8⟩ := A1.cells
    have HA1 : Hid (At w _ v1) := A1
    clear A1
    simp only at x0 x1 x2 x3 x4 x5 x6 x7 x8
    go_wp2_with fail
    go_at_call 138
    refine (K2 _).mono ?_
    rintro e v2 ⟨rfl, hb⟩
    have HA2 : Hid (At w _ v2) := HA1.out.trans hb
    clear hb K2 x0 x1 x2 x3 x4 x5 x6 x7 x8
    go_wp2
    go_ret3
    exact ⟨rfl, HA2.out.below⟩
  | true =>
  cases h2 : isN c b with
  | false =>
    rw [show twB c a b = false by unfold twB; rw [h1, h2]; rfl, show twX c a b = 0 by unfold twX twB; rw [h1, h2]; rfl, show twY c a b = 0 by unfold twY twB; rw [h1, h2]; rfl]
    rw [pl_yes h1] at K1
    rw [(pl_no h2).1, (pl_no h2).2.1, (pl_no h2).2.2] at K2
    clear C1 C2 h1 h2
    generalize plx c a = X at *
    generalize ply c a = Y at *
    obtain ⟨cw, ch, cl, cd, cr, ci, cb, we, ca⟩ := c
    simp only [cfv, cfc] at *
    go_enter Tryz.func140, Tryz.ntmps140
    go_wp2_with fail
    go_at_call 138
    refine (K1 _).mono ?_
    rintro e v1 ⟨rfl, hb⟩
    have A1 := A0.out.trans hb
    clear hb K1
    obtain ⟨x0, x1, x2, x3, x4, x5, x6, x7, x8⟩ := A1.cells
    have HA1 : Hid (At w _ v1) := A1
    clear A1
    simp only at x0 x1 x2 x3 x4 x5 x6 x7 x8
    go_wp2_with fail
    go_at_call 138
    refine (K2 _).mono ?_
    rintro e v2 ⟨rfl, hb⟩
    have HA2 : Hid (At w _ v2) := HA1.out.trans hb
    clear hb K2 x0 x1 x2 x3 x4 x5 x6 x7 x8
    go_wp2
    go_ret3
    exact ⟨rfl, HA2.out.below⟩
  | true =>
    have e0 : twB c a b = true := by unfold twB; rw [h1, h2]; rfl
    rw [e0, show twX c a b = tox (plx c b - plx c a) by unfold twX; rw [e0]; rfl, show twY c a b = toy (ply c b - ply c a) by unfold twY; rw [e0]; rfl]
    rw [pl_yes h1] at K1
    rw [pl_yes h2] at K2
    have D1 := cmp_tox (plx c a) (plx c b)
    have D2 := cmp_tox (ply c a) (ply c b)
    generalize cmp (plx c b) (plx c a) = M at *
    generalize cmp (ply c b) (ply c a) = M' at *
    have E1 : (M = -1 ∧ tox (plx c b - plx c a) = 2) ∨ (M = 0 ∧ tox (plx c b - plx c a) = 0) ∨ (M = 1 ∧ tox (plx c b - plx c a) = 1) := by omega
    have E2 : (M' = -1 ∧ toy (ply c b - ply c a) = 4) ∨ (M' = 0 ∧ toy (ply c b - ply c a) = 0) ∨ (M' = 1 ∧ toy (ply c b - ply c a) = 3) := by omega
    clear D1 D2
    generalize tox (plx c b - plx c a) = R at *
    generalize toy (ply c b - ply c a) = R' at *
    clear h1 h2 e0
    generalize plx c a = X at *
    generalize ply c a = Y at *
    generalize plx c b = X' at *
    generalize ply c b = Y' at *
    obtain ⟨cw, ch, cl, cd, cr, ci, cb, we, ca⟩ := c
    simp only [cfv, cfc] at *
    rcases E1 with ⟨rfl, rfl⟩ | ⟨rfl, rfl⟩ | ⟨rfl, rfl⟩ <;> rcases E2 with ⟨rfl, rfl⟩ | ⟨rfl, rfl⟩ | ⟨rfl, rfl⟩
    all_goals
      go_enter Tryz.func140, Tryz.ntmps140
      go_wp2_with fail
      go_at_call 138
      refine (K1 _).mono ?_
      rintro e v1 ⟨rfl, hb⟩
      have A1 := A0.out.trans hb
      clear hb K1
      obtain ⟨x0, x1, x2, x3, x4, x5, x6, x7, x8⟩ := A1.cells
      have HA1 : Hid (At w _ v1) := A1
      clear A1
      simp only at x0 x1 x2 x3 x4 x5 x6 x7 x8
      go_wp2_with fail
      go_at_call 138
      refine (K2 _).mono ?_
      rintro e v2 ⟨rfl, hb⟩
      have HA2 : Hid (At w _ v2) := HA1.out.trans hb
      clear hb K2 x0 x1 x2 x3 x4 x5 x6 x7 x8
      obtain ⟨hz, ⟨t0, t1, t2⟩, ⟨s0, s1, s2⟩, _⟩ := HA2.out.tabs HT.out
      go_wp2_with fail
      go_quiet (first | (go_at_call_of 153 X'; exact Calls.quiet_of_same ((C1 _).mono fun _ _ h => ⟨h.1, h.2.symm⟩)) | (go_at_call_of 153 Y'; exact Calls.quiet_of_same ((C2 _).mono fun _ _ h => ⟨h.1, h.2.symm⟩)))
      go_wp2
      go_ret3
      exact ⟨rfl, (HA2.out.drewN _).below⟩

theorem tw_opt {c : Cf} {a b : Int} (h : twB c a b = true) :
    opt c a b = if twX c a b = 0 then [twY c a b] else if twY c a b = 0 ∨ twX c a b = 2 ∨ c.we = false then [twX c a b] else [twX c a b, twY c a b] := by
  have h' := h
  unfold twB at h'
  simp only [Bool.and_eq_true] at h'
  obtain ⟨ha, hb⟩ := h'
  unfold twX twY
  rw [if_pos h, if_pos h]
  by_cases hne : a = b
  · subst hne
    rw [opt_self ha]
    unfold ox oy tox toy
    simp
  · have z := off_zero ha hb hne
    unfold opt
    rw [ha, hb]
    simp only [Bool.and_self, if_true, if_neg hne]
    generalize ox c a b = X at *
    generalize oy c a b = Y at *
    unfold tox toy optY
    rcases Int.lt_trichotomy X 0 with h1 | h1 | h1
    · simp [h1]
    · subst h1
      rcases Int.lt_trichotomy Y 0 with h2 | h2 | h2
      · have : ¬ 0 < Y := by omega
        simp [h2, this]
      · omega
      · have : ¬ Y < 0 := by omega
        simp [h2, this]
    · have h1' : ¬ X < 0 := by omega
      rcases Int.lt_trichotomy Y 0 with h2 | h2 | h2
      · have : ¬ 0 < Y := by omega
        cases c.we <;> simp [h1, h1', h2, this]
      · subst h2
        cases c.we <;> simp [h1, h1']
      · have : ¬ Y < 0 := by omega
        cases c.we <;> simp [h1, h1', h2, this]
theorem tw_no {c : Cf} {a b : Int} (h : twB c a b = false) : opt c a b = [] ∧ twX c a b = 0 ∧ twY c a b = 0 := by
  refine ⟨opt_no h, ?_, ?_⟩
  · unfold twX; rw [h]; rfl
  · unfold twY; rw [h]; rfl
end Go.Proofs.YtmmegmonmilkcaaGreatDoor.G

namespace Go.Proofs.YtmmegmonmilkcaaGreatDoor.G
open Go.RowKit

theorem Row.of {w w' : World} {l l' : List Int} {v : Value} (e : l' = l) (h : Own 3 w' w.heap.size v (vi l)) (hb : Below w.heap.size w w') : Row w l' (.returned v) w' := by
  subst e
  exact ⟨v, rfl, h, hb⟩

set_option maxHeartbeats 1000000 in
theorem options_any (c : Cf) (a b : Int) (w : World) (hT : Tabs w) : Calls Tryz.prog 122 #[cfv c, .int .i64 a, .int .i64 b] w (Row w (opt c a b)) := by
  have A0 : Hid (At w c (w.alloc (.cells (cfc c) 23))) := At.start w c
  have K := toward_any c a b _ (A0.out.tabs hT)
  clear hT
  cases h : twB c a b with
  | false =>
    rw [(tw_no h).1]
    rw [h, (tw_no h).2.1, (tw_no h).2.2] at K
    clear h
    obtain ⟨cw, ch, cl, cd, cr, ci, cb, we, ca⟩ := c
    simp only [cfv, cfc] at *
    go_enter Tryz.func122, Tryz.ntmps122
    go_wp2_with fail
    go_at_call 140
    refine K.mono ?_
    rintro e v1 ⟨rfl, hb⟩
    have HA1 : Hid (At w _ v1) := A0.out.trans hb
    clear hb K
    go_wp2
    go_ret
    exact Row.mk (Own.nil _ _ _) HA1.out.below
  | true =>
    rw [h] at K
    have e0 := tw_opt h
    obtain ⟨L, hL⟩ : ∃ L, opt c a b = L := ⟨_, rfl⟩
    rw [hL] at e0 ⊢
    clear h hL
    generalize twX c a b = X at *
    generalize twY c a b = Y at *
    obtain ⟨cw, ch, cl, cd, cr, ci, cb, we, ca⟩ := c
    have HL : Hid (L = if X = 0 then [Y] else if Y = 0 ∨ X = 2 ∨ we = false then [X] else [X, Y]) := e0
    clear e0
    simp only [cfv, cfc] at *
    go_enter Tryz.func122, Tryz.ntmps122
    go_wp2_with fail
    go_at_call 140
    refine K.mono ?_
    rintro e v1 ⟨rfl, hb⟩
    have A1 := A0.out.trans hb
    clear hb K
    obtain ⟨x0, x1, x2, x3, x4, x5, x6, x7, x8⟩ := A1.cells
    have HA1 : Hid (At w _ v1) := A1
    have hsz : w.heap.size ≤ v1.heap.size := A1.below.size
    clear A1 A0
    simp only at x0 x1 x2 x3 x4 x5 x6 x7 x8
    clear x0 x1 x2 x3 x4 x5 x6 x8
    by_cases hx : X = 0
    · subst hx
      go_wp2
      go_ret
      exact Row.of (l := [Y]) (by rw [HL.out]; simp) (Own.lit #[.int .i64 Y] hsz (by simp)) (HA1.out.below.alloc hsz _)
    · by_cases hy : Y = 0
      · subst hy
        go_wp2
        go_ret
        exact Row.of (l := [X]) (by rw [HL.out]; simp [hx]) (Own.lit #[.int .i64 X] hsz (by simp)) (HA1.out.below.alloc hsz _)
      · by_cases h2 : X = 2
        · subst h2
          go_wp2
          go_ret
          exact Row.of (l := [2]) (by rw [HL.out]; simp) (Own.lit #[.int .i64 2] hsz (by simp)) (HA1.out.below.alloc hsz _)
        · cases we with
          | false =>
            go_wp2
            go_ret
            exact Row.of (l := [X]) (by rw [HL.out]; simp [hx]) (Own.lit #[.int .i64 X] hsz (by simp)) (HA1.out.below.alloc hsz _)
          | true =>
            go_wp2
            go_ret
            exact Row.of (l := [X, Y]) (by rw [HL.out]; simp [hx, hy, h2]) (Own.lit #[.int .i64 X, .int .i64 Y] hsz (by simp)) (HA1.out.below.alloc hsz _)
end Go.Proofs.YtmmegmonmilkcaaGreatDoor.G

namespace Go.Proofs.YtmmegmonmilkcaaGreatDoor.G

theorem opt_le2 (c : Cf) (a b : Int) : (opt c a b).length ≤ 2 := by
  cases h : isN c a && isN c b with
  | false => rw [opt_no h]; simp
  | true =>
    simp only [Bool.and_eq_true] at h
    exact (opt_len h.1 h.2).2.1
/-- The list's place that a choice is of. -/
theorem ch_at {l : List Int} (h : l.length ≠ 0) {k : Int} (h1 : -9223372036854775808 ≤ k) (h2 : k ≤ 9223372036854775807) :
    ∃ j : Nat, j < l.length ∧ (chAbs k).tmod (l.length : Int) = (j : Int) ∧ chP l k = l.getD j 0 := by
  have a := chAbs_in h1 h2
  have m0 : 0 ≤ chAbs k % (l.length : Int) := Int.emod_nonneg _ (by omega)
  have m1 : chAbs k % (l.length : Int) < l.length := Int.emod_lt_of_pos _ (by omega)
  refine ⟨(chAbs k % (l.length : Int)).toNat, by omega, ?_, ?_⟩
  · rw [Int.tmod_eq_emod_of_nonneg a.1]; omega
  · unfold chP; rw [if_neg h]
theorem ch_first {p : Int} {l : List Int} : chP (p :: l) 0 = p := by
  unfold chP chAbs
  simp
theorem ch_yes {p : Int} {l : List Int} : chB (p :: l) = true := by
  unfold chB
  simp
theorem str_some {c : Cf} {n b : Int} (h : str c n b ≠ []) : isN c n = true ∧ isN c b = true := by
  cases e : isN c n && isN c b with
  | false => exact absurd (show str c n b = [] by unfold str; rw [e]; rfl) h
  | true => simpa using e
/-- The way's next step. -/
theorem str_go {c : Cf} {n b : Int} (h : str c n b ≠ []) : ∃ p r, chP (opt c n b) 0 = p ∧ chB (opt c n b) = true ∧ str c n b = p :: r ∧ (r ≠ [] → r = str c (bsN c n p) b) := by
  obtain ⟨hn, hb⟩ := str_some h
  obtain ⟨p, l, r, e1, e2, e3, _, _⟩ := ways hn hb
  have eo : ∃ m, opt c n b = p :: m := by
    cases hw : c.we with
    | false => exact ⟨[], by have : { c with we := false } = c := by rw [← hw]
                             rw [this] at e1; exact e1⟩
    | true => exact ⟨l, by have : { c with we := true } = c := by rw [← hw]
                           rw [this] at e2; exact e2⟩
  obtain ⟨m, eo⟩ := eo
  refine ⟨p, r, by rw [eo]; exact ch_first, by rw [eo]; exact ch_yes, e3, fun hr => ?_⟩
  by_cases hne : n = b
  · subst hne
    rw [str_self hn] at e3
    simp at e3
    exact absurd e3.2 hr
  · have := str_step hn hb hne e1
    rw [this] at e3
    simp at e3
    exact e3.symm
/-- The same by the document. -/
theorem rstr_go {c : Cf} {n b : Int} (hn : isN c n = true) (hb : isN c b = true) :
    ∃ p, opt { c with we := false } n b = [p] ∧ ((p = 0 ∧ str c n b = [0]) ∨ (p ≠ 0 ∧ isN c (bsN c n p) = true ∧ str c n b = p :: str c (bsN c n p) b ∧ (fr c (bsN c n p) b).toNat < (fr c n b).toNat)) := by
  obtain ⟨p, l, r, e1, _, e3, _, _⟩ := ways hn hb
  refine ⟨p, e1, ?_⟩
  by_cases hne : n = b
  · subst hne
    have : opt { c with we := false } n n = [0] := opt_self hn
    rw [e1] at this
    simp at this
    exact Or.inl ⟨this, str_self hn⟩
  · obtain ⟨n1, n2, n3⟩ := opt_near (c := { c with we := false }) hn hb hne (p := p) (by rw [e1]; simp)
    have n2 : bsB c n p = true := n2
    have n3 : fr c (bsN c n p) b = fr c n b - 1 := n3
    have hi := (step_ok n2).2.2.2.1
    have := fr_nonneg hi hb
    exact Or.inr ⟨n1, hi, str_step hn hb hne e1, by omega⟩
theorem str_le (c : Cf) (a b : Int) : (str c a b).length ≤ 127 := by
  by_cases h : str c a b = []
  · rw [h]; simp
  · obtain ⟨h1, h2⟩ := str_some h
    have := str_len h1 h2
    have := fr_in c a b
    omega
theorem str_fr (c : Cf) (a b : Int) : fr c a b + 1 = ((str c a b).length : Int) := by
  cases e : isN c a && isN c b with
  | false =>
    rw [show str c a b = [] by unfold str; rw [e]; rfl, show fr c a b = -1 by unfold fr; rw [e]; rfl]
    rfl
  | true =>
    simp only [Bool.and_eq_true] at e
    exact (str_len e.1 e.2).symm
end Go.Proofs.YtmmegmonmilkcaaGreatDoor.G

namespace Go.Proofs.YtmmegmonmilkcaaGreatDoor.G
open Go.RowKit

set_option maxHeartbeats 1000000 in
theorem choose_any (c : Cf) (a b k : Int) (h1 : -9223372036854775808 ≤ k) (h2 : k ≤ 9223372036854775807) (w : World) (hT : Tabs w) : Calls Tryz.prog 95 #[cfv c, .int .i64 a, .int .i64 b, .int .i64 k] w fun e w' => e = .returned (.tuple #[.int .i64 (chP (opt c a b) k), .bool (chB (opt c a b))]) ∧ Below w.heap.size w w' := by
  have A0 : Hid (At w c (w.alloc (.cells (cfc c) 23))) := At.start w c
  have K := options_any c a b _ (A0.out.tabs hT)
  clear hT
  have LE := opt_le2 c a b
  generalize opt c a b = L at *
  by_cases hl : L = []
  · subst hl
    rw [show chP [] k = 0 by simp [chP], show chB [] = false from rfl]
    clear LE
    obtain ⟨cw, ch, cl, cd, cr, ci, cb, we, ca⟩ := c
    simp only [cfv, cfc] at *
    go_enter Tryz.func95, Tryz.ntmps95
    go_wp2_with fail
    go_at_call 122
    refine K.mono ?_
    rintro e v1 ⟨v, rfl, own, hb⟩
    have HA1 : Hid (At w _ v1) := A0.out.trans hb
    obtain ⟨al, cap, rfl, _, _, _⟩ := own.rd
    rw [vi_len]
    clear hb K own
    go_wp2
    go_ret2
    exact ⟨rfl, HA1.out.below⟩
  · have hl0 : L.length ≠ 0 := fun e => hl (List.eq_nil_of_length_eq_zero e)
    obtain ⟨j, hj, hm, hp⟩ := ch_at hl0 h1 h2
    rw [hp, show chB L = true by unfold chB; simp [hl0]]
    have HV : Hid ((vi L)[j]? = some (.int .i64 (L.getD j 0))) := vi_at hj
    have HL : Hid ((vi L).length = L.length) := vi_len L
    generalize L.getD j 0 = R at *
    generalize hn : L.length = n at *
    clear hn hp hl
    have hj1 : (j : Int) < n := by omega
    have hj0 : (0 : Int) ≤ j := by omega
    have hn0 : ¬ (n : Int) = 0 := by omega
    obtain ⟨cw, ch, cl, cd, cr, ci, cb, we, ca⟩ := c
    simp only [cfv, cfc] at *
    by_cases k0 : k < 0
    · have e0 : chAbs k = -1 - k := by unfold chAbs; rw [if_pos k0]; omega
      obtain ⟨q, hq⟩ : ∃ q, q = -1 - k := ⟨_, rfl⟩
      have e1 : IntKind.i64.wrap (-1 - k) = q := by rw [IntWalk.i64_in _ (by omega)]; omega
      rw [e0, ← hq] at hm
      clear hq
      clear e0 h1 h2 hl0 hj
      go_enter Tryz.func95, Tryz.ntmps95
      go_wp2_with fail
      go_at_call 122
      refine K.mono ?_
      rintro e v1 ⟨v, rfl, own, hb⟩
      have HA1 : Hid (At w _ v1) := A0.out.trans hb
      obtain ⟨g, cap, rfl, _, _, _, _, hc⟩ := own.form (by rw [HL.out]; omega)
      have c0 := hc j _ HV.out
      rw [HL.out]
      clear hb K own hc
      go_wp2
      go_ret2
      exact ⟨rfl, HA1.out.below⟩
    · have e0 : chAbs k = k := by unfold chAbs; rw [if_neg k0]
      rw [e0] at hm
      clear e0 h1 h2 hl0 hj
      go_enter Tryz.func95, Tryz.ntmps95
      go_wp2_with fail
      go_at_call 122
      refine K.mono ?_
      rintro e v1 ⟨v, rfl, own, hb⟩
      have HA1 : Hid (At w _ v1) := A0.out.trans hb
      obtain ⟨g, cap, rfl, _, _, _, _, hc⟩ := own.form (by rw [HL.out]; omega)
      have c0 := hc j _ HV.out
      rw [HL.out]
      clear hb K own hc
      go_wp2
      go_ret2
      exact ⟨rfl, HA1.out.below⟩
end Go.Proofs.YtmmegmonmilkcaaGreatDoor.G

namespace Go.Proofs.YtmmegmonmilkcaaGreatDoor.G
open Go.RowKit

theorem nxt {w v v' : World} (h : Below w.heap.size w v) (hb : Below v.heap.size v v') : Below w.heap.size w v' := h.trans (hb.mono h.size)

/-- Block b holds this config. -/
def Blk (v : World) (b : Nat) (c : Cf) : Prop := v.heap[b]? = some (.cells (cfc c) 23 (0, 0))
theorem Blk.cell {v : World} {b : Nat} {c : Cf} (h : Blk v b c) (j : Nat) : v.cell? ⟨b, j, none⟩ = (cfc c)[j]? := cell_of h j
theorem Blk.free {v : World} {b : Nat} {c : Cf} (h : Blk v b c) (j : Nat) : v.frozen? ⟨b, j, none⟩ = false := by
  unfold Blk at h
  simp [World.frozen?, h]
theorem Blk.lt {v : World} {b : Nat} {c : Cf} (h : Blk v b c) : b < v.heap.size := lt_of_heap h
theorem Blk.below {v v' : World} {b : Nat} {c : Cf} (h : Blk v b c) (hb : Below v.heap.size v v') : Blk v' b c := by
  unfold Blk
  rw [hb.block b h.lt]
  exact h
theorem Blk.new (w : World) (c : Cf) : Blk (w.alloc (.cells (cfc c) 23)) w.heap.size c := heap_alloc_new w _
theorem Blk.alloc {v : World} {b : Nat} {c : Cf} (h : Blk v b c) (o : Obj) : Blk (v.alloc o) b c := h.below ((Below.refl _ _).alloc (Nat.le_refl _) o)
theorem Blk.all {v : World} {b : Nat} {c : Cf} (h : Blk v b c) (d : Cf) :
    Blk (((((((((v.setCell ⟨b, 0, none⟩ (.int .i64 d.w)).setCell ⟨b, 1, none⟩ (.int .i64 d.h)).setCell ⟨b, 2, none⟩ (.int .i64 d.l)).setCell ⟨b, 3, none⟩ (.int .i64 d.d)).setCell ⟨b, 4, none⟩ (.int .i64 d.r)).setCell ⟨b, 5, none⟩ (.int .i64 d.i)).setCell ⟨b, 6, none⟩ (.int .i64 d.b)).setCell ⟨b, 7, none⟩ (.bool d.we)).setCell ⟨b, 8, none⟩ (.bool d.ca)) b d := by
  unfold Blk at h ⊢
  simp [World.setCell, Array.getElem?_modify, h]
theorem below_nine {w v : World} {B b : Nat} (h : Below B w v) (hb : B ≤ b) (x0 x1 x2 x3 x4 x5 x6 x7 x8 : Value) :
    Below B w (((((((((v.setCell ⟨b, 0, none⟩ x0).setCell ⟨b, 1, none⟩ x1).setCell ⟨b, 2, none⟩ x2).setCell ⟨b, 3, none⟩ x3).setCell ⟨b, 4, none⟩ x4).setCell ⟨b, 5, none⟩ x5).setCell ⟨b, 6, none⟩ x6).setCell ⟨b, 7, none⟩ x7).setCell ⟨b, 8, none⟩ x8) :=
  ((((((((h.setCell hb _).setCell hb _).setCell hb _).setCell hb _).setCell hb _).setCell hb _).setCell hb _).setCell hb _).setCell hb _
theorem nine_far {v : World} {b k : Nat} (h : k ≠ b) (x0 x1 x2 x3 x4 x5 x6 x7 x8 : Value) :
    (((((((((v.setCell ⟨b, 0, none⟩ x0).setCell ⟨b, 1, none⟩ x1).setCell ⟨b, 2, none⟩ x2).setCell ⟨b, 3, none⟩ x3).setCell ⟨b, 4, none⟩ x4).setCell ⟨b, 5, none⟩ x5).setCell ⟨b, 6, none⟩ x6).setCell ⟨b, 7, none⟩ x7).setCell ⟨b, 8, none⟩ x8).heap[k]? = v.heap[k]? := by
  have f : ∀ (u : World) j x, (u.setCell ⟨b, j, none⟩ x).heap[k]? = u.heap[k]? := fun u j x => Below.heap_setCell u ⟨b, j, none⟩ x k h
  rw [f, f, f, f, f, f, f, f, f]

/-- A law's world: the config in the first block of the call's own, and an array in the one behind it. -/
def Wk (w : World) (c : Cf) (A : Array Value) (t : TypeId) (v : World) : Prop := Blk v w.heap.size c ∧ v.heap[w.heap.size + 1]? = some (.cells A t (0, 0)) ∧ Below w.heap.size w v
theorem Wk.start (w : World) (c : Cf) (A : Array Value) (t : TypeId) : Wk w c A t ((w.alloc (.cells (cfc c) 23)).alloc (.cells A t)) :=
  ⟨(Blk.new w c).alloc _, by
    have h := heap_alloc_new (w.alloc (.cells (cfc c) 23)) (.cells A t)
    rw [show (w.alloc (.cells (cfc c) 23)).heap.size = w.heap.size + 1 by simp] at h
    exact h, ((Below.refl _ _).alloc (Nat.le_refl _) _).alloc (by simp) _⟩
theorem Wk.next {w v v' : World} {c : Cf} {A : Array Value} {t : TypeId} (h : Wk w c A t v) (hb : Below v.heap.size v v') : Wk w c A t v' :=
  ⟨h.1.below hb, by rw [hb.block _ (lt_of_heap h.2.1)]; exact h.2.1, nxt h.2.2 hb⟩
theorem Wk.drewN {w v : World} {c : Cf} {A : Array Value} {t : TypeId} (h : Wk w c A t v) (n : Nat) : Wk w c A t (v.drewN n) := h.next ⟨rfl, rfl, rfl, Nat.le_refl _, fun _ _ => rfl⟩
theorem Wk.drew {w v : World} {c : Cf} {A : Array Value} {t : TypeId} (h : Wk w c A t v) : Wk w c A t v.drew := h.next ⟨rfl, rfl, rfl, Nat.le_refl _, fun _ _ => rfl⟩
theorem Wk.below {w v : World} {c : Cf} {A : Array Value} {t : TypeId} (h : Wk w c A t v) : Below w.heap.size w v := h.2.2
theorem Wk.lt {w v : World} {c : Cf} {A : Array Value} {t : TypeId} (h : Wk w c A t v) : w.heap.size + 1 < v.heap.size := lt_of_heap h.2.1
theorem Wk.arr {w v : World} {c : Cf} {A : Array Value} {t : TypeId} (h : Wk w c A t v) (j : Nat) : v.cell? ⟨w.heap.size + 1, j, none⟩ = A[j]? := cell_of h.2.1 j
theorem Wk.cells {w v : World} {c : Cf} {A : Array Value} {t : TypeId} (h : Wk w c A t v) :
    v.cell? ⟨w.heap.size, 0, none⟩ = some (.int .i64 c.w) ∧ v.cell? ⟨w.heap.size, 1, none⟩ = some (.int .i64 c.h) ∧ v.cell? ⟨w.heap.size, 2, none⟩ = some (.int .i64 c.l) ∧
    v.cell? ⟨w.heap.size, 3, none⟩ = some (.int .i64 c.d) ∧ v.cell? ⟨w.heap.size, 4, none⟩ = some (.int .i64 c.r) ∧ v.cell? ⟨w.heap.size, 5, none⟩ = some (.int .i64 c.i) ∧
    v.cell? ⟨w.heap.size, 6, none⟩ = some (.int .i64 c.b) ∧ v.cell? ⟨w.heap.size, 7, none⟩ = some (.bool c.we) ∧ v.cell? ⟨w.heap.size, 8, none⟩ = some (.bool c.ca) :=
  ⟨h.1.cell 0, h.1.cell 1, h.1.cell 2, h.1.cell 3, h.1.cell 4, h.1.cell 5, h.1.cell 6, h.1.cell 7, h.1.cell 8⟩
theorem Wk.free {w v : World} {c : Cf} {A : Array Value} {t : TypeId} (h : Wk w c A t v) :
    v.frozen? ⟨w.heap.size, 0, none⟩ = false ∧ v.frozen? ⟨w.heap.size, 1, none⟩ = false ∧ v.frozen? ⟨w.heap.size, 2, none⟩ = false ∧ v.frozen? ⟨w.heap.size, 3, none⟩ = false ∧ v.frozen? ⟨w.heap.size, 4, none⟩ = false ∧
    v.frozen? ⟨w.heap.size, 5, none⟩ = false ∧ v.frozen? ⟨w.heap.size, 6, none⟩ = false ∧ v.frozen? ⟨w.heap.size, 7, none⟩ = false ∧ v.frozen? ⟨w.heap.size, 8, none⟩ = false :=
  ⟨h.1.free 0, h.1.free 1, h.1.free 2, h.1.free 3, h.1.free 4, h.1.free 5, h.1.free 6, h.1.free 7, h.1.free 8⟩
/-- Another config is stored. -/
theorem Wk.all {w v : World} {c : Cf} {A : Array Value} {t : TypeId} (h : Wk w c A t v) (d : Cf) :
    Wk w d A t (((((((((v.setCell ⟨w.heap.size, 0, none⟩ (.int .i64 d.w)).setCell ⟨w.heap.size, 1, none⟩ (.int .i64 d.h)).setCell ⟨w.heap.size, 2, none⟩ (.int .i64 d.l)).setCell ⟨w.heap.size, 3, none⟩ (.int .i64 d.d)).setCell ⟨w.heap.size, 4, none⟩ (.int .i64 d.r)).setCell ⟨w.heap.size, 5, none⟩ (.int .i64 d.i)).setCell ⟨w.heap.size, 6, none⟩ (.int .i64 d.b)).setCell ⟨w.heap.size, 7, none⟩ (.bool d.we)).setCell ⟨w.heap.size, 8, none⟩ (.bool d.ca)) :=
  ⟨h.1.all d, (nine_far (by omega) _ _ _ _ _ _ _ _ _).trans h.2.1, below_nine h.2.2 (Nat.le_refl _) _ _ _ _ _ _ _ _ _⟩

/-- The same without an array. -/
def W1 (w : World) (c : Cf) (v : World) : Prop := Blk v w.heap.size c ∧ Below w.heap.size w v
theorem W1.start (w : World) (c : Cf) : W1 w c (w.alloc (.cells (cfc c) 23)) := ⟨Blk.new w c, (Below.refl _ _).alloc (Nat.le_refl _) _⟩
theorem W1.next {w v v' : World} {c : Cf} (h : W1 w c v) (hb : Below v.heap.size v v') : W1 w c v' := ⟨h.1.below hb, nxt h.2 hb⟩
theorem W1.drewN {w v : World} {c : Cf} (h : W1 w c v) (n : Nat) : W1 w c (v.drewN n) := h.next ⟨rfl, rfl, rfl, Nat.le_refl _, fun _ _ => rfl⟩
theorem W1.drew {w v : World} {c : Cf} (h : W1 w c v) : W1 w c v.drew := h.next ⟨rfl, rfl, rfl, Nat.le_refl _, fun _ _ => rfl⟩
theorem W1.below {w v : World} {c : Cf} (h : W1 w c v) : Below w.heap.size w v := h.2
theorem W1.lt {w v : World} {c : Cf} (h : W1 w c v) : w.heap.size < v.heap.size := lt_of_heap h.1
theorem W1.cells {w v : World} {c : Cf} (h : W1 w c v) :
    v.cell? ⟨w.heap.size, 0, none⟩ = some (.int .i64 c.w) ∧ v.cell? ⟨w.heap.size, 1, none⟩ = some (.int .i64 c.h) ∧ v.cell? ⟨w.heap.size, 2, none⟩ = some (.int .i64 c.l) ∧
    v.cell? ⟨w.heap.size, 3, none⟩ = some (.int .i64 c.d) ∧ v.cell? ⟨w.heap.size, 4, none⟩ = some (.int .i64 c.r) ∧ v.cell? ⟨w.heap.size, 5, none⟩ = some (.int .i64 c.i) ∧
    v.cell? ⟨w.heap.size, 6, none⟩ = some (.int .i64 c.b) ∧ v.cell? ⟨w.heap.size, 7, none⟩ = some (.bool c.we) ∧ v.cell? ⟨w.heap.size, 8, none⟩ = some (.bool c.ca) :=
  ⟨h.1.cell 0, h.1.cell 1, h.1.cell 2, h.1.cell 3, h.1.cell 4, h.1.cell 5, h.1.cell 6, h.1.cell 7, h.1.cell 8⟩
theorem W1.free {w v : World} {c : Cf} (h : W1 w c v) :
    v.frozen? ⟨w.heap.size, 0, none⟩ = false ∧ v.frozen? ⟨w.heap.size, 1, none⟩ = false ∧ v.frozen? ⟨w.heap.size, 2, none⟩ = false ∧ v.frozen? ⟨w.heap.size, 3, none⟩ = false ∧ v.frozen? ⟨w.heap.size, 4, none⟩ = false ∧
    v.frozen? ⟨w.heap.size, 5, none⟩ = false ∧ v.frozen? ⟨w.heap.size, 6, none⟩ = false ∧ v.frozen? ⟨w.heap.size, 7, none⟩ = false ∧ v.frozen? ⟨w.heap.size, 8, none⟩ = false :=
  ⟨h.1.free 0, h.1.free 1, h.1.free 2, h.1.free 3, h.1.free 4, h.1.free 5, h.1.free 6, h.1.free 7, h.1.free 8⟩
theorem W1.all {w v : World} {c : Cf} (h : W1 w c v) (d : Cf) :
    W1 w d (((((((((v.setCell ⟨w.heap.size, 0, none⟩ (.int .i64 d.w)).setCell ⟨w.heap.size, 1, none⟩ (.int .i64 d.h)).setCell ⟨w.heap.size, 2, none⟩ (.int .i64 d.l)).setCell ⟨w.heap.size, 3, none⟩ (.int .i64 d.d)).setCell ⟨w.heap.size, 4, none⟩ (.int .i64 d.r)).setCell ⟨w.heap.size, 5, none⟩ (.int .i64 d.i)).setCell ⟨w.heap.size, 6, none⟩ (.int .i64 d.b)).setCell ⟨w.heap.size, 7, none⟩ (.bool d.we)).setCell ⟨w.heap.size, 8, none⟩ (.bool d.ca)) :=
  ⟨h.1.all d, below_nine h.2 (Nat.le_refl _) _ _ _ _ _ _ _ _ _⟩
end Go.Proofs.YtmmegmonmilkcaaGreatDoor.G

namespace Go.Proofs.YtmmegmonmilkcaaGreatDoor.G
open Go.RowKit

theorem tm_in (x m : Int) (hm : 0 < m) : ∃ q : Int, (IntKind.u64.wrap x).tmod m = q ∧ 0 ≤ q ∧ q < m := by
  have h0 : 0 ≤ IntKind.u64.wrap x := by
    have := IntKind.wrap_u64 x
    rw [this]
    omega
  refine ⟨_, rfl, Int.tmod_nonneg _ h0, ?_⟩
  rw [Int.tmod_eq_emod_of_nonneg h0]
  exact Int.emod_lt_of_pos _ hm

/-- What Small makes. -/
def SmallP (w : World) (e : Ending) (w' : World) : Prop := ∃ c', e = .returned (cfv c') ∧ Below w.heap.size w w' ∧ Fits c' ∧ c'.w ≤ 4 ∧ c'.h ≤ 4
theorem SmallP.mk {w w' : World} {c' : Cf} (hb : Below w.heap.size w w') (f : Fits c') (hw : c'.w ≤ 4) (hh : c'.h ≤ 4) : SmallP w (.returned (cfv c')) w' := ⟨c', rfl, hb, f, hw, hh⟩

set_option maxRecDepth 100000 in
set_option maxHeartbeats 1000000 in
theorem small_any (c : Cf) (w : World) : Calls Tryz.prog 10 #[cfv c] w (SmallP w) := by
  obtain ⟨cw, ch, cl, cd, cr, ci, cb, we, ca⟩ := c
  obtain ⟨qw, ew, aw, bw⟩ := tm_in cw 4 (by decide)
  obtain ⟨qh, eh, ah, bh⟩ := tm_in ch 4 (by decide)
  obtain ⟨ql, el, al, bl⟩ := tm_in cl 3 (by decide)
  obtain ⟨qd, ed, ad, bd⟩ := tm_in cd 3 (by decide)
  obtain ⟨qr, er, ar, br⟩ := tm_in cr 3 (by decide)
  obtain ⟨qi, ei, ai, bi⟩ := tm_in ci 3 (by decide)
  obtain ⟨qb, eb, ab, bb⟩ := tm_in cb 4 (by decide)
  simp only [cfv, cfc] at *
  cases ca
  · go_enter Tryz.func10, Tryz.ntmps10
    go_wp2
    exact bodyPost_ret (v := .agg #[.int .i64 (1 + qw), .int .i64 (1 + qh), .int .i64 (1 + ql), .int .i64 (1 + qd), .int .i64 (1 + qr), .int .i64 (1 + qi), .int .i64 (1 + qb), .bool we, .bool false]) (by simp [results, Tryz.results10, go_sem]) rfl (SmallP.mk (c' := ⟨1 + qw, 1 + qh, (1 + ql), 1 + qd, 1 + qr, 1 + qi, 1 + qb, we, false⟩) ((((Below.refl _ _).alloc (Nat.le_refl _) _).alloc (by simp) _).alloc (by simp; omega) _) ⟨by show _ ≤ 1 + qw; omega, by show 1 + qw ≤ _; omega, by show _ ≤ 1 + qh; omega, by show 1 + qh ≤ _; omega, by show _ ≤ (1 + ql); omega, by show (1 + ql) ≤ _; omega, by intro h; show _ ≤ (1 + ql); first | omega | exact absurd h Bool.false_ne_true, by show _ ≤ 1 + qd; omega, by show 1 + qd ≤ _; omega, by show _ ≤ 1 + qr; omega, by show 1 + qr ≤ _; omega, by show _ ≤ 1 + qi; omega, by show 1 + qi ≤ _; omega, by show _ ≤ 1 + qb; omega, by show 1 + qb ≤ _; omega⟩ (by show 1 + qw ≤ _; omega) (by show 1 + qh ≤ _; omega))
  · by_cases hl : 1 + ql < 2
    · go_enter Tryz.func10, Tryz.ntmps10
      go_wp2
      exact bodyPost_ret (v := .agg #[.int .i64 (1 + qw), .int .i64 (1 + qh), .int .i64 2, .int .i64 (1 + qd), .int .i64 (1 + qr), .int .i64 (1 + qi), .int .i64 (1 + qb), .bool we, .bool true]) (by simp [results, Tryz.results10, go_sem]) rfl (SmallP.mk (c' := ⟨1 + qw, 1 + qh, 2, 1 + qd, 1 + qr, 1 + qi, 1 + qb, we, true⟩) ((((Below.refl _ _).alloc (Nat.le_refl _) _).alloc (by simp) _).alloc (by simp; omega) _) ⟨by show _ ≤ 1 + qw; omega, by show 1 + qw ≤ _; omega, by show _ ≤ 1 + qh; omega, by show 1 + qh ≤ _; omega, by show _ ≤ 2; omega, by show 2 ≤ _; omega, by intro h; show _ ≤ 2; first | omega | exact absurd h Bool.false_ne_true, by show _ ≤ 1 + qd; omega, by show 1 + qd ≤ _; omega, by show _ ≤ 1 + qr; omega, by show 1 + qr ≤ _; omega, by show _ ≤ 1 + qi; omega, by show 1 + qi ≤ _; omega, by show _ ≤ 1 + qb; omega, by show 1 + qb ≤ _; omega⟩ (by show 1 + qw ≤ _; omega) (by show 1 + qh ≤ _; omega))
    · go_enter Tryz.func10, Tryz.ntmps10
      go_wp2
      exact bodyPost_ret (v := .agg #[.int .i64 (1 + qw), .int .i64 (1 + qh), .int .i64 (1 + ql), .int .i64 (1 + qd), .int .i64 (1 + qr), .int .i64 (1 + qi), .int .i64 (1 + qb), .bool we, .bool true]) (by simp [results, Tryz.results10, go_sem]) rfl (SmallP.mk (c' := ⟨1 + qw, 1 + qh, (1 + ql), 1 + qd, 1 + qr, 1 + qi, 1 + qb, we, true⟩) ((((Below.refl _ _).alloc (Nat.le_refl _) _).alloc (by simp) _).alloc (by simp; omega) _) ⟨by show _ ≤ 1 + qw; omega, by show 1 + qw ≤ _; omega, by show _ ≤ 1 + qh; omega, by show 1 + qh ≤ _; omega, by show _ ≤ (1 + ql); omega, by show (1 + ql) ≤ _; omega, by intro h; show _ ≤ (1 + ql); first | omega | exact absurd h Bool.false_ne_true, by show _ ≤ 1 + qd; omega, by show 1 + qd ≤ _; omega, by show _ ≤ 1 + qr; omega, by show 1 + qr ≤ _; omega, by show _ ≤ 1 + qi; omega, by show 1 + qi ≤ _; omega, by show _ ≤ 1 + qb; omega, by show 1 + qb ≤ _; omega⟩ (by show 1 + qw ≤ _; omega) (by show 1 + qh ≤ _; omega))
end Go.Proofs.YtmmegmonmilkcaaGreatDoor.G

namespace Go.Proofs.YtmmegmonmilkcaaGreatDoor.G
open Go.RowKit

theorem Wk.steps {w v : World} {c : Cf} {A : Array Value} {t : TypeId} (h : Wk w c A t v) (hS : Steps w) : Steps v := hS.next h.2.2
theorem W1.steps {w v : World} {c : Cf} (h : W1 w c v) (hS : Steps w) : Steps v := hS.next h.2

theorem small_form (c : Cf) (w : World) : Calls Tryz.prog 10 #[cfv c] w fun e w' => ∃ dw dh dl dd dr di db de da, e = .returned (.agg #[.int .i64 dw, .int .i64 dh, .int .i64 dl, .int .i64 dd, .int .i64 dr, .int .i64 di, .int .i64 db, .bool de, .bool da]) ∧ Below w.heap.size w w' ∧ Fits ⟨dw, dh, dl, dd, dr, di, db, de, da⟩ ∧ dw ≤ 4 ∧ dh ≤ 4 :=
  (small_any c w).mono fun _ _ ⟨c', he, hb, f, a, b⟩ => ⟨c'.w, c'.h, c'.l, c'.d, c'.r, c'.i, c'.b, c'.we, c'.ca, he, hb, f, a, b⟩

theorem outB_in {lo hi x : Int} (h1 : lo ≤ x) (h2 : x ≤ hi) : outB lo hi x = false := by
  unfold outB
  simp only [Bool.or_eq_false_iff, decide_eq_false_iff_not]
  omega
theorem chk_fits {c : Cf} (f : Fits c) : chk c = 0 := by
  have e1 : t1 c = false := by unfold t1; rw [outB_in f.w1 f.w2, outB_in f.h1 f.h2]; rfl
  have e2 : t2 c = false := by
    unfold t2
    apply outB_in
    · cases h : c.ca
      · simp [f.l1]
      · simp [f.lc h]
    · exact f.l2
  have e3 : t3 c = false := by unfold t3; rw [outB_in f.d1 f.d2, outB_in f.r1 f.r2, outB_in f.i1 f.i2]; rfl
  have e4 : t4 c = false := by unfold t4; rw [outB_in f.b1 f.b2]
  unfold chk
  rw [e1, e2, e3, e4]
  rfl

/-- A node that is there, made of any number. -/
def nde (c : Cf) (n : Int) : Int := (IntKind.u64.wrap n).tmod (nod c)
theorem nde_in {c : Cf} (h : chk c = 0) (n : Int) : isN c (nde c n) = true := by
  have f := fits_of h
  have hm := mul_in f.w1 f.w2 f.h1 f.h2
  obtain ⟨q, e, h0, h1⟩ := tm_in n (nod c) (by rw [nod_of h]; omega)
  unfold nde
  rw [e]
  unfold isN
  simp [h0, h1]

theorem node_any (c : Cf) (h : chk c = 0) (n : Int) (w : World) : Calls Tryz.prog 11 #[cfv c, .int .i64 n] w fun e w' => e = .returned (.int .i64 (nde c n)) ∧ Below w.heap.size w w' := by
  have K := rnodes_any c
  have A0 : Hid (At w c (w.alloc (.cells (cfc c) 23))) := At.start w c
  have f := fits_of h
  have hm := mul_in f.w1 f.w2 f.h1 f.h2
  obtain ⟨q, e, h0, h1⟩ := tm_in n (nod c) (by rw [nod_of h]; omega)
  unfold nde
  rw [e]
  rw [← nod_of h] at hm
  generalize nod c = N at *
  obtain ⟨m1, m2⟩ := hm
  have hq : q ≤ 4096 := by omega
  clear f h
  obtain ⟨cw, ch, cl, cd, cr, ci, cb, we, ca⟩ := c
  simp only [cfv, cfc] at *
  go_enter Tryz.func11, Tryz.ntmps11
  go_wp2_with fail
  go_at_call 38
  refine (K _).mono ?_
  rintro e v1 ⟨rfl, hb⟩
  have HA1 : Hid (At w _ v1) := A0.out.trans hb
  clear hb K
  go_wp2
  go_ret
  exact ⟨rfl, HA1.out.below⟩
end Go.Proofs.YtmmegmonmilkcaaGreatDoor.G

namespace Go.Proofs.YtmmegmonmilkcaaGreatDoor.G
open Go.RowKit

theorem ris_any (c : Cf) (n : Int) (w : World) : Calls Tryz.prog 34 #[cfv c, .int .i64 n] w fun e w' => e = .returned (.bool (isN c n)) ∧ Below w.heap.size w w' := by
  have K := rnodes_any c
  have A0 : Hid (At w c (w.alloc (.cells (cfc c) 23))) := At.start w c
  unfold isN
  generalize nod c = M at *
  obtain ⟨cw, ch, cl, cd, cr, ci, cb, we, ca⟩ := c
  simp only [cfv, cfc] at *
  by_cases h0 : 0 ≤ n
  · by_cases h1 : n < M
    · rw [show (decide (0 ≤ n) && decide (n < M)) = true by simp [h0, h1]]
      have d1 : decide (n < M) = true := by simp [h1]
      go_enter Tryz.func34, Tryz.ntmps34
      go_wp2_with fail
      go_at_call 38
      refine (K _).mono ?_
      rintro e v1 ⟨rfl, hb⟩
      have HA1 : Hid (At w _ v1) := A0.out.trans hb
      clear hb K
      go_wp2
      go_ret
      exact ⟨rfl, HA1.out.below⟩
    · rw [show (decide (0 ≤ n) && decide (n < M)) = false by simp [h1]]
      have d1 : decide (n < M) = false := by simp [h1]
      go_enter Tryz.func34, Tryz.ntmps34
      go_wp2_with fail
      go_at_call 38
      refine (K _).mono ?_
      rintro e v1 ⟨rfl, hb⟩
      have HA1 : Hid (At w _ v1) := A0.out.trans hb
      clear hb K
      go_wp2
      go_ret
      exact ⟨rfl, HA1.out.below⟩
  · rw [show (decide (0 ≤ n) && decide (n < M)) = false by simp [h0]]
    go_enter Tryz.func34, Tryz.ntmps34
    go_wp2
    go_ret
    exact ⟨rfl, A0.out.below⟩

theorem rx_any (c : Cf) (n : Int) (h : isN c n = true) (w : World) : Calls Tryz.prog 114 #[cfv c, .int .i64 n] w fun e w' => e = .returned (.int .i64 (plx c n)) ∧ Below w.heap.size w w' := by
  have A0 : Hid (At w c (w.alloc (.cells (cfc c) 23))) := At.start w c
  obtain ⟨hc, h0, h1⟩ := isN_ok h
  have f := fits_of hc
  have ex : (n.tmod c.w) = plx c n := by rw [Int.tmod_eq_emod_of_nonneg h0]; unfold plx; rw [if_pos h]
  have px := plx_in c n
  have w1 := f.w1
  generalize plx c n = X at *
  clear hc h1 f h
  obtain ⟨cw, ch, cl, cd, cr, ci, cb, we, ca⟩ := c
  simp only [cfv, cfc] at *
  go_enter Tryz.func114, Tryz.ntmps114
  go_wp2
  go_ret
  exact ⟨rfl, A0.out.below⟩

theorem ry_any (c : Cf) (n : Int) (h : isN c n = true) (w : World) : Calls Tryz.prog 115 #[cfv c, .int .i64 n] w fun e w' => e = .returned (.int .i64 (ply c n)) ∧ Below w.heap.size w w' := by
  have A0 : Hid (At w c (w.alloc (.cells (cfc c) 23))) := At.start w c
  obtain ⟨hc, h0, h1⟩ := isN_ok h
  have f := fits_of hc
  have ex : (n.tdiv c.w) = ply c n := by rw [Int.tdiv_eq_ediv_of_nonneg h0]; unfold ply; rw [if_pos h]
  have px := ply_in c n
  have w1 := f.w1
  have hn := (isN_lt h).2
  generalize ply c n = X at *
  clear hc h1 f h
  obtain ⟨cw, ch, cl, cd, cr, ci, cb, we, ca⟩ := c
  simp only [cfv, cfc] at *
  go_enter Tryz.func115, Tryz.ntmps115
  go_wp2
  go_ret
  exact ⟨rfl, A0.out.below⟩

theorem rat_any (c : Cf) (x y : Int) (w : World) : Calls Tryz.prog 116 #[cfv c, .int .i64 x, .int .i64 y] w fun e w' => e = .returned (.tuple #[.int .i64 (atn c x y), .int .i64 (ate c x y)]) ∧ Below w.heap.size w w' := by
  have K := rnodes_any c
  have A0 : Hid (At w c (w.alloc (.cells (cfc c) 23))) := At.start w c
  cases h : inP c x y with
  | true =>
    obtain ⟨hc, h1, h2, h3, h4⟩ := inP_ok h
    obtain ⟨g1, g2, g3, g4⟩ := node_in h
    have f := fits_of hc
    have ea : atn c x y = y * c.w + x := by unfold atn; rw [if_pos h]
    have ee : ate c x y = 0 := by unfold ate; rw [if_pos h]
    have hm := (mul_in f.w1 f.w2 f.h1 f.h2).1
    rw [← nod_of hc] at hm
    rw [ea, ee]
    have hx : x ≤ 63 := by have := f.w2; omega
    have hy : y ≤ 63 := by have := f.h2; omega
    generalize nod c = N at *
    clear ea ee hc f h g2 g4
    obtain ⟨cw, ch, cl, cd, cr, ci, cb, we, ca⟩ := c
    simp only [cfv, cfc] at *
    have d1 : decide (cw ≤ x) = false := by simp; omega
    have d2 : decide (ch ≤ y) = false := by simp; omega
    have d3 : (N == 0) = false := by simp; omega
    have d4 : decide (x < 0) = false := by simp; omega
    have d5 : decide (y < 0) = false := by simp; omega
    obtain ⟨M, hM⟩ : ∃ M : Int, y * cw = M := ⟨_, rfl⟩
    rw [hM] at g1 g3 ⊢
    have HM : Hid (y * cw = M) := hM
    clear hM
    go_enter Tryz.func116, Tryz.ntmps116
    go_wp2_with fail
    go_at_call 38
    refine (K _).mono ?_
    rintro e v1 ⟨rfl, hb⟩
    have A1 := A0.out.trans hb
    clear hb K
    obtain ⟨x0, x1, -, -, -, -, -, -, -⟩ := A1.cells
    have HA1 : Hid (At w _ v1) := A1
    clear A1
    simp only at x0 x1
    have hM := HM.out
    go_wp2
    go_ret2
    exact ⟨rfl, HA1.out.below⟩
  | false =>
    have ea : atn c x y = 0 := by unfold atn; rw [h]; rfl
    have ee : ate c x y = 5 := by unfold ate; rw [h]; rfl
    rw [ea, ee]
    clear ea ee
    by_cases hc : chk c = 0
    · have f := fits_of hc
      have hm := (mul_in f.w1 f.w2 f.h1 f.h2).1
      rw [← nod_of hc] at hm
      have h' : x < 0 ∨ 0 ≤ x ∧ c.w ≤ x ∨ 0 ≤ x ∧ x < c.w ∧ y < 0 ∨ 0 ≤ x ∧ x < c.w ∧ 0 ≤ y ∧ c.h ≤ y := by
        have : ¬ (0 ≤ x ∧ x < c.w ∧ 0 ≤ y ∧ y < c.h) := fun ⟨a1, a2, a3, a4⟩ => by
          rw [inP_mk hc a1 a2 a3 a4] at h
          cases h
        omega
      generalize nod c = N at *
      clear hc f h
      obtain ⟨cw, ch, cl, cd, cr, ci, cb, we, ca⟩ := c
      simp only [cfv, cfc] at *
      have d3 : (N == 0) = false := by simp; omega
      have H : (decide (x < 0) = true) ∨ (decide (x < 0) = false ∧ decide (cw ≤ x) = true) ∨ (decide (x < 0) = false ∧ decide (cw ≤ x) = false ∧ decide (y < 0) = true) ∨ (decide (x < 0) = false ∧ decide (cw ≤ x) = false ∧ decide (y < 0) = false ∧ decide (ch ≤ y) = true) := by
        simp only [decide_eq_true_eq, decide_eq_false_iff_not]
        omega
      clear h'
      rcases H with d4 | ⟨d4, d1⟩ | ⟨d4, d1, d5⟩ | ⟨d4, d1, d5, d2⟩
      all_goals
        go_enter Tryz.func116, Tryz.ntmps116
        go_wp2_with fail
        go_at_call 38
        refine (K _).mono ?_
        rintro e v1 ⟨rfl, hb⟩
        have A1 := A0.out.trans hb
        clear hb K
        obtain ⟨x0, x1, -, -, -, -, -, -, -⟩ := A1.cells
        have HA1 : Hid (At w _ v1) := A1
        clear A1
        simp only at x0 x1
        go_wp2
        go_ret2
        exact ⟨rfl, HA1.out.below⟩
    · rw [nod_not hc] at K
      clear hc h
      obtain ⟨cw, ch, cl, cd, cr, ci, cb, we, ca⟩ := c
      simp only [cfv, cfc] at *
      go_enter Tryz.func116, Tryz.ntmps116
      go_wp2_with fail
      go_at_call 38
      refine (K _).mono ?_
      rintro e v1 ⟨rfl, hb⟩
      have HA1 : Hid (At w _ v1) := A0.out.trans hb
      clear hb K
      go_wp2
      go_ret2
      exact ⟨rfl, HA1.out.below⟩
end Go.Proofs.YtmmegmonmilkcaaGreatDoor.G
