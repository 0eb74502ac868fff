/-
 A config as plain data; the walks of config.within, of what it calls, and of config.Check.
 The walks of config.Check, Nodes, Class, and of the document's own.
 The walk of the document's Check, and of both Nodes and both Class.
 The walks of both Nodes; what a config that may be is.
 The walks of both Class.
 Nodes of a mesh, their places, who is beside whom, how far two are apart, and all channels, as plain mathematics.
 The walks of isBelow, Is, Place, At, and of the document's Is, X, Y, At.
 One line through all nodes, as plain mathematics: labels, the step toward a node, and ways.
 The contracts of Check, Nodes, Is, Place and At once more, with 'the count of draws is no less' beside Below; the walks of snake's turned, Label and Node over them. (Written by gen_gr.py out of the texts Cfg, Check, Nodes, Place.)
 The table of steps, and the walk of Beside.
 The walk of snake's Step. (Written by gen_step.py.)
 Where a packet may go, which turns are allowed, and the way along x first, as plain mathematics (layer 6).
 The tables of where a distance leads; the walk of Compare.
 Slices of the call's own that read as a list; append of one value as one law, over whatever program.
 Lists of numbers that are answered in new memory; the walk of the document's Same.
 The walks of toward and Options.
 The walk of Options.
 What walks of Choose and Straight ask of the plain mathematics.
 The walk of Choose.
 A config's block, and an array's behind it, through a law's walk: no function in it.
 The walk of the document's Small.
 Small as a struct written out; the walk of reticuleref05.Node; what walks of grid ask of a law's world.
 The walks of the document's Is, X, Y, At.
-/
import Derived.Test.YtmmegmonmilkcaaGreatDoorSq
import Derived.Test.YtmmegmonmilkcaaGreatDoorProg
import Derived.WalkKit
import Derived.BigQuiet
import Derived.BigCall
import Derived.Deep.QuietTactic
import Derived.Deep.LoopGhost
import Derived.WalkSpells
import Derived.WalkLawsBesides
import Derived.KernelRfl
import Derived.ProofKit
import Derived.Laws.StructEq
import Derived.Outline
import Derived.OwnWalk
import Derived.Sort.Grow
import Derived.Deep.RegionHeld3
import Derived.WalkSmall
import Derived.IntWalk
namespace Go.Proofs.YtmmegmonmilkcaaGreatDoor.G
open Go.RowKit
theorem ret_int {k : IntKind} {a b : Int} (h : a = b) : Ending.returned (.int k a) = .returned (.int k b) := by rw [h]
theorem ret_bool {a b : Bool} (h : a = b) : Ending.returned (.bool a) = .returned (.bool b) := by rw [h]
structure Cf where
 w : Int
 h : Int
 l : Int
 d : Int
 r : Int
 i : Int
 b : Int
 we : Bool
 ca : Bool
abbrev cfc (c : Cf) : Array Value := (zq5 c.w c.h c.l c.d c.r c.i c.b c.we c.ca)
abbrev cfv (c : Cf) : Value := .agg (cfc c)
def outB (lo hi x : Int) : Bool := decide (x < lo) || decide (hi < x)
theorem pred_any (x lo hi : Int) (p q : Addr) (w : World) (hp : w.cell? p = some (.int .i64 lo)) (hq : w.cell? q = some (.int .i64 hi)) :
  Calls Tryz.prog 145 #[.int .i64 x, .pointer (some p), .pointer (some q)] w fun e w' => e = .returned (.bool (outB lo hi x)) ∧ w = w' := by
 by_cases h1 : x < lo
 ·have e : outB lo hi x = true := by unfold outB; simp [h1]
  rw [e]
  clear e
  go_enter Tryz.func145, Tryz.ntmps145
  go_wp2
  go_ret
  exact ⟨rfl, rfl⟩
 ·by_cases h2 : hi < x
  ·have e : outB lo hi x = true := by unfold outB; simp [h2]
   rw [e]
   clear e
   go_enter Tryz.func145, Tryz.ntmps145
   go_wp2
   go_ret
   exact ⟨rfl, rfl⟩
  ·have e : outB lo hi x = false := by unfold outB; simp [h1, h2]
   rw [e]
   clear e
   go_enter Tryz.func145, Tryz.ntmps145
   go_wp2
   go_ret
   exact ⟨rfl, rfl⟩
def FirstOut (lo hi : Int) (zs : List Int) (w : World) (e : Ending) (w' : World) : Prop :=
 w = w' ∧ ∃ r : Int, e = .returned (.int .i64 r) ∧ decide (0 ≤ r) = zs.any (outB lo hi)
set_option maxHeartbeats 1000000 in
theorem index_any (lo hi : Int) (b : Nat) (zs : List Int) (c : Nat) (p q : Addr) (w : World) (hp : w.cell? p = some (.int .i64 lo)) (hq : w.cell? q = some (.int .i64 hi))
  (hz : zs.length ≤ 100) (hc : ∀ j, j < zs.length → w.cell? ⟨b, j, none⟩ = some (.int .i64 (zs.getD j 0))) :
  Calls Tryz.prog 155 #[.slice (some ⟨b, 0, none⟩) zs.length c, .func (.func 145) #[] #[.pointer (some p), .pointer (some q)]] w (FirstOut lo hi zs w) := by
 have K := fun x => pred_any x lo hi p q w hp hq
 clear hp hq
 have HC : Hid (∀ j, j < zs.length → w.cell? ⟨b, j, none⟩ = some (.int .i64 (zs.getD j 0))) := hc
 clear hc
 generalize hn : zs.length = n at *
 have HN : Hid (zs.length = n) := hn
 clear hn
 go_enter Tryz.func155, Tryz.ntmps155
 go_wp2
 go_loopg [5, 8] n (fun gg _ s8 wr => ∃ k : Nat, k ≤ n ∧ n - k ≤ gg ∧ s8 = .int .i64 k ∧ wr = w ∧ Aside (∀ j, j < k → outB lo hi (zs.getD j 0) = false))
 case atStart => exact ⟨0, Nat.zero_le _, by omega, rfl, rfl, fun j hj => absurd hj (Nat.not_lt_zero _)⟩
 case round =>
  obtain ⟨k, hk, hg, rfl, rfl, A⟩ := hrel
  by_cases hlt : k < n
  ·have hltz : (k : Int) < (n : Int) := by omega
   have hcell := HC.out k hlt
   have hcall := K (zs.getD k 0)
   generalize hy : zs.getD k 0 = y at hcell hcall
   have B : Aside (zs.getD k 0 = y) := hy
   clear hy
   cases ho : outB lo hi y with
   | true =>
    rw [ho] at hcall
    have O : Aside (outB lo hi y = true) := ho
    clear ho
    go_wp2_with (go_at_call 145; refine (hcall).mono ?_; rintro e w' ⟨rfl, rfl⟩)
    go_ret
    refine ⟨rfl, _, rfl, ?_⟩
    rw [List.any_eq_true.mpr ⟨y, ?_, O.out⟩]
    ·simp
    ·have hl := HN.out
     have hb := B.out
     rw [← hb, List.getD_eq_getElem?_getD, List.getElem?_eq_getElem (by omega)]
     exact List.getElem_mem _
   | false =>
    rw [ho] at hcall
    have O : Aside (outB lo hi y = false) := ho
    clear ho
    go_wp2_with (go_at_call 145; refine (hcall).mono ?_; rintro e w' ⟨rfl, rfl⟩)
    go_roundg (n - (k + 1))
    case measure => omega
    case rel =>
     refine ⟨k + 1, by omega, by omega, by go_num, rfl, (show Aside _ from fun j hj => ?_)⟩
     by_cases e : j = k
     ·subst e
      rw [B.out]; exact O.out
     ·exact A.out j (by omega)
  ·have hltz : ¬ (k : Int) < (n : Int) := by omega
   obtain rfl : k = n := by omega
   go_wp2
   go_ret
   refine ⟨rfl, _, rfl, ?_⟩
   rw [show zs.any (outB lo hi) = false from ?_]
   ·simp
   ·rw [List.any_eq_false]
    intro x hx
    obtain ⟨j, hj, rfl⟩ := List.getElem_of_mem hx
    have h := A.out j (by have := HN.out; omega)
    rw [List.getD_eq_getElem?_getD, List.getElem?_eq_getElem hj] at h
    simpa using h
theorem contains_any (lo hi : Int) (b : Nat) (zs : List Int) (c : Nat) (p q : Addr) (w : World) (hp : w.cell? p = some (.int .i64 lo)) (hq : w.cell? q = some (.int .i64 hi))
  (hz : zs.length ≤ 100) (hc : ∀ j, j < zs.length → w.cell? ⟨b, j, none⟩ = some (.int .i64 (zs.getD j 0))) :
  Calls Tryz.prog 146 #[.slice (some ⟨b, 0, none⟩) zs.length c, .func (.func 145) #[] #[.pointer (some p), .pointer (some q)]] w fun e w' => e = .returned (.bool (zs.any (outB lo hi))) ∧ w = w' := by
 have K := index_any lo hi b zs c p q w hp hq hz hc
 clear hp hq hc
 unfold FirstOut at K
 generalize zs.any (outB lo hi) = t at *
 generalize zs.length = n at *
 go_enter Tryz.func146, Tryz.ntmps146
 go_wp2_with (go_at_call 155; refine K.mono ?_; rintro e w' ⟨rfl, r, rfl, hr⟩; have HR : Hid (decide (0 ≤ r) = t) := hr; clear hr)
 go_ret
 exact ⟨ret_bool HR.out, rfl⟩
theorem within_any (lo hi : Int) (b : Nat) (zs : List Int) (n c : Nat) (w : World) (hz : zs.length ≤ 100) (hn : zs.length = n) (hb : b < w.heap.size) (hc : ∀ j, j < zs.length → w.cell? ⟨b, j, none⟩ = some (.int .i64 (zs.getD j 0))) :
  Calls Tryz.prog 131 #[.int .i64 lo, .int .i64 hi, .slice (some ⟨b, 0, none⟩) n c] w fun e w' => e = .returned (.bool (!(zs.any (outB lo hi)))) ∧ Below w.heap.size w w' := by
 subst hn
 have b0 : Hid (Below w.heap.size w ((w.alloc (.cells #[.int .i64 lo] 3)).alloc (.cells #[.int .i64 hi] 3))) := ((Below.refl _ _).alloc (Nat.le_refl _) _).alloc (by simp) _
 have K := contains_any lo hi b zs c ⟨w.heap.size, 0, none⟩ ⟨w.heap.size + 1, 0, none⟩ ((w.alloc (.cells #[.int .i64 lo] 3)).alloc (.cells #[.int .i64 hi] 3)) (by go_simp) (by go_simp) hz
  (fun j hj => by rw [b0.out.cell (p := ⟨b, j, none⟩) hb]; exact hc j hj)
 clear hc
 generalize zs.any (outB lo hi) = t at *
 generalize zs.length = n at *
 go_enter Tryz.func131, Tryz.ntmps131
 go_wp2_with (go_at_call 146; (with_reducible refine K.mono ?_); rintro e w' ⟨rfl, rfl⟩)
 go_ret
 exact ⟨rfl, b0.out⟩
theorem within1 (lo hi x : Int) (b c : Nat) (w : World) (hb : b < w.heap.size) (h0 : w.cell? ⟨b, 0, none⟩ = some (.int .i64 x)) :
  Calls Tryz.prog 131 #[.int .i64 lo, .int .i64 hi, .slice (some ⟨b, 0, none⟩) 1 c] w fun e w' => e = .returned (.bool (!(outB lo hi x))) ∧ Below w.heap.size w w' := by
 have h := within_any lo hi b [x] 1 c w (by simp) rfl hb (fun j hj => by
  have : j < 1 := hj
  obtain rfl : j = 0 := by omega
  exact h0)
 simpa using h
theorem within2 (lo hi x y : Int) (b c : Nat) (w : World) (hb : b < w.heap.size) (h0 : w.cell? ⟨b, 0, none⟩ = some (.int .i64 x)) (h1 : w.cell? ⟨b, 1, none⟩ = some (.int .i64 y)) :
  Calls Tryz.prog 131 #[.int .i64 lo, .int .i64 hi, .slice (some ⟨b, 0, none⟩) 2 c] w fun e w' => e = .returned (.bool (!(outB lo hi x || outB lo hi y))) ∧ Below w.heap.size w w' := by
 have h := within_any lo hi b [x, y] 2 c w (by simp) rfl hb (fun j hj => by
  have : j < 2 := hj
  rcases (by omega : j = 0 ∨ j = 1) with rfl | rfl
  ·exact h0
  ·exact h1)
 simpa using h
theorem within3 (lo hi x y z : Int) (b c : Nat) (w : World) (hb : b < w.heap.size) (h0 : w.cell? ⟨b, 0, none⟩ = some (.int .i64 x)) (h1 : w.cell? ⟨b, 1, none⟩ = some (.int .i64 y)) (h2 : w.cell? ⟨b, 2, none⟩ = some (.int .i64 z)) :
  Calls Tryz.prog 131 #[.int .i64 lo, .int .i64 hi, .slice (some ⟨b, 0, none⟩) 3 c] w fun e w' => e = .returned (.bool (!(outB lo hi x || outB lo hi y || outB lo hi z))) ∧ Below w.heap.size w w' := by
 have h := within_any lo hi b [x, y, z] 3 c w (by simp) rfl hb (fun j hj => by
  have : j < 3 := hj
  rcases (by omega : j = 0 ∨ j = 1 ∨ j = 2) with rfl | rfl | rfl
  ·exact h0
  ·exact h1
  ·exact h2)
 simpa [Bool.or_assoc] using h
end Go.Proofs.YtmmegmonmilkcaaGreatDoor.G
namespace Go.Proofs.YtmmegmonmilkcaaGreatDoor.G
open Go.RowKit
def At (w : World) (c : Cf) (v : World) : Prop := Below (w.heap.size + 1) (w.alloc (.cells (cfc c) 23)) v
theorem At.start (w : World) (c : Cf) : At w c (w.alloc (.cells (cfc c) 23)) := Below.refl _ _
theorem At.cell {w v : World} {c : Cf} (h : At w c v) (j : Nat) : v.cell? ⟨w.heap.size, j, none⟩ = (cfc c)[j]? := by
 rw [Below.cell h (p := ⟨w.heap.size, j, none⟩) (by simp), World.cell?_alloc_at _ _ _ _ rfl]
theorem At.size {w v : World} {c : Cf} (h : At w c v) : w.heap.size + 1 ≤ v.heap.size := by
 have := Below.size h
 simpa using this
theorem At.trans {w v v' : World} {c : Cf} (h : At w c v) (hb : Below v.heap.size v v') : At w c v' := Below.trans h (hb.mono h.size)
theorem At.alloc {w v : World} {c : Cf} (h : At w c v) (o : Obj) : At w c (v.alloc o) := Below.alloc h h.size o
theorem At.below {w v : World} {c : Cf} (h : At w c v) : Below w.heap.size w v :=
 ((Below.refl _ _).alloc (Nat.le_refl _) _).trans (Below.mono h (by omega))
theorem At.cells {w v : World} {c : Cf} (h : At w c v) :
  v.cell? ⟨w.heap.size, 0, none⟩ = some (.int .i64 c.w) ∧ v.cell? ⟨w.heap.size, 1, none⟩ = some (.int .i64 c.h) ∧ v.cell? ⟨w.heap.size, 2, none⟩ = some (.int .i64 c.l) ∧
  v.cell? ⟨w.heap.size, 3, none⟩ = some (.int .i64 c.d) ∧ v.cell? ⟨w.heap.size, 4, none⟩ = some (.int .i64 c.r) ∧ v.cell? ⟨w.heap.size, 5, none⟩ = some (.int .i64 c.i) ∧
  v.cell? ⟨w.heap.size, 6, none⟩ = some (.int .i64 c.b) ∧ v.cell? ⟨w.heap.size, 7, none⟩ = some (.bool c.we) ∧ v.cell? ⟨w.heap.size, 8, none⟩ = some (.bool c.ca) :=
 ⟨h.cell 0, h.cell 1, h.cell 2, h.cell 3, h.cell 4, h.cell 5, h.cell 6, h.cell 7, h.cell 8⟩
def t1 (c : Cf) : Bool := outB 1 64 c.w || outB 1 64 c.h
def t2 (c : Cf) : Bool := outB (if c.ca then 2 else 1) 8 c.l
def t3 (c : Cf) : Bool := outB 1 64 c.d || outB 1 64 c.r || outB 1 64 c.i
def t4 (c : Cf) : Bool := outB 1 16 c.b
def chk (c : Cf) : Int := if t1 c = true then 4 else if t2 c = true then 10 else if t3 c = true then 10 else if t4 c = true then 10 else 0
set_option maxHeartbeats 1000000 in
theorem check_any (c : Cf) (w : World) : Calls Tryz.prog 107 #[cfv c] w fun e w' => e = .returned (.int .i64 (chk c)) ∧ Below w.heap.size w w' := by
 have K1 := within2 1 64 c.w c.h
 have K2 := within1 (if c.ca then 2 else 1) 8 c.l
 have K3 := within3 1 64 c.d c.r c.i
 have K4 := within1 1 16 c.b
 unfold chk
 change ∀ b cc w, _ → _ → _ → Calls _ _ _ _ (fun e w' => e = .returned (.bool (!(t1 c))) ∧ _) at K1
 change ∀ b cc w, _ → _ → Calls _ _ _ _ (fun e w' => e = .returned (.bool (!(t2 c))) ∧ _) at K2
 change ∀ b cc w, _ → _ → _ → _ → Calls _ _ _ _ (fun e w' => e = .returned (.bool (!(t3 c))) ∧ _) at K3
 change ∀ b cc w, _ → _ → Calls _ _ _ _ (fun e w' => e = .returned (.bool (!(t4 c))) ∧ _) at K4
 generalize t1 c = T1 at *
 generalize t2 c = T2 at *
 generalize t3 c = T3 at *
 generalize t4 c = T4 at *
 have A0 : Hid (At w c (w.alloc (.cells (cfc c) 23))) := At.start w c
 have sz : Hid ((w.alloc (.cells (cfc c) 23)).heap.size = w.heap.size + 1) := by simp [Hid]
 obtain ⟨cw, ch, cl, cd, cr, ci, cb, we, ca⟩ := c
 simp only [cfv, cfc] at *
 cases ca
 all_goals
  simp only [if_true, if_false, Bool.false_eq_true] at K2
  go_enter Tryz.func107, Tryz.ntmps107
  go_wp2_with fail
  go_at_call 131
  refine (K1 _ _ _ (by simp) (by go_simp) (by go_simp)).mono ?_
  rintro e v1 ⟨rfl, hb⟩
  have A1 := (A0.out.alloc _).trans hb
  clear hb K1
  obtain ⟨-, -, x2, x3, x4, x5, x6, -, -⟩ := A1.cells
  have Z1 : w.heap.size < v1.heap.size := by have := A1.size; omega
  have HA1 : Hid (At w _ v1) := A1
  clear A1
  cases T1 with
  | true =>
   go_wp2
   go_ret
   exact ⟨rfl, HA1.out.below⟩
  | false =>
   go_wp2_with fail
   go_at_call 131
   refine (K2 _ _ _ (by simp) (by go_simp)).mono ?_
   rintro e v2 ⟨rfl, hb⟩
   clear x2 x3 x4 x5 x6 Z1 K2
   have A2 := (HA1.out.alloc _).trans hb
   clear hb
   obtain ⟨-, -, -, x3, x4, x5, x6, -, -⟩ := A2.cells
   have Z2 : w.heap.size < v2.heap.size := by have := A2.size; omega
   have HA2 : Hid (At w _ v2) := A2
   clear A2 HA1
   cases T2 with
   | true =>
    go_wp2
    go_ret
    exact ⟨rfl, HA2.out.below⟩
   | false =>
    go_wp2_with fail
    go_at_call 131
    refine (K3 _ _ _ (by simp) (by go_simp) (by go_simp) (by go_simp)).mono ?_
    rintro e v3 ⟨rfl, hb⟩
    clear x3 x4 x5 x6 Z2 K3
    have A3 := (HA2.out.alloc _).trans hb
    clear hb
    obtain ⟨-, -, -, -, -, -, x6, -, -⟩ := A3.cells
    have Z3 : w.heap.size < v3.heap.size := by have := A3.size; omega
    have HA3 : Hid (At w _ v3) := A3
    clear A3 HA2
    cases T3 with
    | true =>
     go_wp2
     go_ret
     exact ⟨rfl, HA3.out.below⟩
    | false =>
     go_wp2_with fail
     go_at_call 131
     refine (K4 _ _ _ (by simp) (by go_simp)).mono ?_
     rintro e v4 ⟨rfl, hb⟩
     clear x6 Z3 K4
     have A4 := (HA3.out.alloc _).trans hb
     have HA4 : Hid (At w _ v4) := A4
     clear A4 HA3 hb
     cases T4 with
     | true =>
      go_wp2
      go_ret
      exact ⟨rfl, HA4.out.below⟩
     | false =>
      go_wp2
      go_ret
      exact ⟨rfl, HA4.out.below⟩
theorem rwithin_any (n lo hi : Int) (w : World) : Calls Tryz.prog 106 #[.int .i64 n, .int .i64 lo, .int .i64 hi] w fun e w' => e = .returned (.bool (!(outB lo hi n))) ∧ w = w' := by
 by_cases h1 : lo ≤ n
 ·have h1' : ¬ n < lo := by omega
  by_cases h2 : n ≤ hi
  ·have h2' : ¬ hi < n := by omega
   have e : outB lo hi n = false := by unfold outB; simp [h1', h2']
   rw [e]
   clear e
   go_enter Tryz.func106, Tryz.ntmps106
   go_wp2
   go_ret
   exact ⟨rfl, rfl⟩
  ·have h2' : hi < n := by omega
   have e : outB lo hi n = true := by unfold outB; simp [h2']
   rw [e]
   clear e
   go_enter Tryz.func106, Tryz.ntmps106
   go_wp2
   go_ret
   exact ⟨rfl, rfl⟩
 ·have h1' : n < lo := by omega
  have e : outB lo hi n = true := by unfold outB; simp [h1']
  rw [e]
  clear e
  go_enter Tryz.func106, Tryz.ntmps106
  go_wp2
  go_ret
  exact ⟨rfl, rfl⟩
end Go.Proofs.YtmmegmonmilkcaaGreatDoor.G
namespace Go.Proofs.YtmmegmonmilkcaaGreatDoor.G
open Go.RowKit
def u2 (c : Cf) : Bool := outB 1 8 c.l
def u3 (c : Cf) : Bool := c.ca && decide (c.l < 2)
theorem t2_eq (c : Cf) : t2 c = (u2 c || u3 c) := by
 unfold t2 u2 u3 outB
 cases c.ca
 ·simp
 ·rw [Bool.eq_iff_iff]
  simp only [if_true, Bool.or_eq_true, decide_eq_true_eq, Bool.true_and]
  omega
set_option maxHeartbeats 1000000 in
theorem rcheck_any (c : Cf) (w : World) : Calls Tryz.prog 78 #[cfv c] w fun e w' => e = .returned (.int .i64 (chk c)) ∧ Below w.heap.size w w' := by
 have A0 : Hid (Below w.heap.size w (w.alloc (.cells (cfc c) 23))) := (At.start w c).below
 have K := rwithin_any
 have D : chk c = if (outB 1 64 c.w || outB 1 64 c.h) = true then 4 else if (outB 1 8 c.l || (c.ca && decide (c.l < 2)) || outB 1 64 c.d || outB 1 64 c.r || outB 1 64 c.i || outB 1 16 c.b) = true then 10 else 0 := by
  unfold chk
  rw [t2_eq]
  unfold t1 u2 u3 t3 t4
  generalize outB 1 8 c.l = a
  generalize (c.ca && decide (c.l < 2)) = b
  generalize outB 1 64 c.d = x
  generalize outB 1 64 c.r = y
  generalize outB 1 64 c.i = z
  generalize outB 1 16 c.b = u
  cases a <;> cases b <;> cases x <;> cases y <;> cases z <;> cases u <;> rfl
 rw [D]
 clear D
 have Kw := fun w => K c.w 1 64 w
 have Kh := fun w => K c.h 1 64 w
 have Kl := fun w => K c.l 1 8 w
 have Kd := fun w => K c.d 1 64 w
 have Kr := fun w => K c.r 1 64 w
 have Ki := fun w => K c.i 1 64 w
 have Kb := fun w => K c.b 1 16 w
 clear K
 generalize outB 1 64 c.w = Bw at *
 generalize outB 1 64 c.h = Bh at *
 generalize outB 1 8 c.l = Bl at *
 generalize outB 1 64 c.d = Bd at *
 generalize outB 1 64 c.r = Br at *
 generalize outB 1 64 c.i = Bi at *
 generalize outB 1 16 c.b = Bb at *
 obtain ⟨cw, ch, cl, cd, cr, ci, cb, we, ca⟩ := c
 simp only [cfv, cfc] at *
 obtain ⟨R, hR⟩ : ∃ R : Int, R = (if (Bw || Bh) = true then 4 else if (Bl || (ca && decide (cl < 2)) || Bd || Br || Bi || Bb) = true then 10 else 0) := ⟨_, rfl⟩
 rw [← hR]
 have HR : Hid (R = (if (Bw || Bh) = true then 4 else if (Bl || (ca && decide (cl < 2)) || Bd || Br || Bi || Bb) = true then 10 else 0)) := hR
 clear hR
 cases Bw with
 | true =>
  go_enter Tryz.func78, Tryz.ntmps78
  go_wp2_with (go_at_call 106; (with_reducible refine (Kw _).mono ?_); rintro e w' ⟨rfl, rfl⟩)
  go_ret
  exact ⟨ret_int (by have h := HR.out; simp at h; exact h.symm), A0.out⟩
 | false =>
  cases Bh with
  | true =>
   go_enter Tryz.func78, Tryz.ntmps78
   go_wp2_with fail
   go_at_call 106
   refine (Kw _).mono ?_
   rintro e w' ⟨rfl, rfl⟩
   go_wp2_with fail
   go_at_call 106
   refine (Kh _).mono ?_
   rintro e w' ⟨rfl, rfl⟩
   go_wp2
   go_ret
   exact ⟨ret_int (by have h := HR.out; simp at h; exact h.symm), A0.out⟩
  | false =>
   go_enter Tryz.func78, Tryz.ntmps78
   go_wp2_with fail
   go_at_call 106
   refine (Kw _).mono ?_
   rintro e w' ⟨rfl, rfl⟩
   go_wp2_with fail
   go_at_call 106
   refine (Kh _).mono ?_
   rintro e w' ⟨rfl, rfl⟩
   go_wp2_with fail
   go_at_call 106
   refine (Kl _).mono ?_
   rintro e w' ⟨rfl, rfl⟩
   cases Bl with
   | true =>
    go_wp2
    go_ret
    exact ⟨ret_int (by have h := HR.out; simp at h; exact h.symm), A0.out⟩
   | false =>
    cases ca with
    | true =>
     by_cases h2 : cl < 2
     ·have hd : decide (cl < 2) = true := by simpa using h2
      go_wp2
      go_ret
      exact ⟨ret_int (by have h := HR.out; simp [hd] at h; exact h.symm), A0.out⟩
     ·have hd : decide (cl < 2) = false := by simpa using h2
      go_wp2_with fail
      go_at_call 106
      refine (Kd _).mono ?_
      rintro e w' ⟨rfl, rfl⟩
      cases Bd with
      | true =>
       go_wp2
       go_ret
       exact ⟨ret_int (by have h := HR.out; simp [hd] at h; exact h.symm), A0.out⟩
      | false =>
       go_wp2_with fail
       go_at_call 106
       refine (Kr _).mono ?_
       rintro e w' ⟨rfl, rfl⟩
       cases Br with
       | true =>
        go_wp2
        go_ret
        exact ⟨ret_int (by have h := HR.out; simp [hd] at h; exact h.symm), A0.out⟩
       | false =>
        go_wp2_with fail
        go_at_call 106
        refine (Ki _).mono ?_
        rintro e w' ⟨rfl, rfl⟩
        cases Bi with
        | true =>
         go_wp2
         go_ret
         exact ⟨ret_int (by have h := HR.out; simp [hd] at h; exact h.symm), A0.out⟩
        | false =>
         go_wp2_with fail
         go_at_call 106
         refine (Kb _).mono ?_
         rintro e w' ⟨rfl, rfl⟩
         cases Bb with
         | true =>
          go_wp2
          go_ret
          exact ⟨ret_int (by have h := HR.out; simp [hd] at h; exact h.symm), A0.out⟩
         | false =>
          go_wp2
          go_ret
          exact ⟨ret_int (by have h := HR.out; simp [hd] at h; exact h.symm), A0.out⟩
    | false =>
     go_wp2_with fail
     go_at_call 106
     refine (Kd _).mono ?_
     rintro e w' ⟨rfl, rfl⟩
     cases Bd with
     | true =>
      go_wp2
      go_ret
      exact ⟨ret_int (by have h := HR.out; simp at h; exact h.symm), A0.out⟩
     | false =>
      go_wp2_with fail
      go_at_call 106
      refine (Kr _).mono ?_
      rintro e w' ⟨rfl, rfl⟩
      cases Br with
      | true =>
       go_wp2
       go_ret
       exact ⟨ret_int (by have h := HR.out; simp at h; exact h.symm), A0.out⟩
      | false =>
       go_wp2_with fail
       go_at_call 106
       refine (Ki _).mono ?_
       rintro e w' ⟨rfl, rfl⟩
       cases Bi with
       | true =>
        go_wp2
        go_ret
        exact ⟨ret_int (by have h := HR.out; simp at h; exact h.symm), A0.out⟩
       | false =>
        go_wp2_with fail
        go_at_call 106
        refine (Kb _).mono ?_
        rintro e w' ⟨rfl, rfl⟩
        cases Bb with
        | true =>
         go_wp2
         go_ret
         exact ⟨ret_int (by have h := HR.out; simp at h; exact h.symm), A0.out⟩
        | false =>
         go_wp2
         go_ret
         exact ⟨ret_int (by have h := HR.out; simp at h; exact h.symm), A0.out⟩
end Go.Proofs.YtmmegmonmilkcaaGreatDoor.G
namespace Go.Proofs.YtmmegmonmilkcaaGreatDoor.G
open Go.RowKit
theorem outB_false {lo hi x : Int} (h : outB lo hi x = false) : lo ≤ x ∧ x ≤ hi := by
 unfold outB at h
 simp only [Bool.or_eq_false_iff, decide_eq_false_iff_not] at h
 omega
structure Fits (c : Cf) : Prop where
 w1 : 1 ≤ c.w
 w2 : c.w ≤ 64
 h1 : 1 ≤ c.h
 h2 : c.h ≤ 64
 l1 : 1 ≤ c.l
 l2 : c.l ≤ 8
 lc : c.ca = true → 2 ≤ c.l
 d1 : 1 ≤ c.d
 d2 : c.d ≤ 64
 r1 : 1 ≤ c.r
 r2 : c.r ≤ 64
 i1 : 1 ≤ c.i
 i2 : c.i ≤ 64
 b1 : 1 ≤ c.b
 b2 : c.b ≤ 16
theorem fits_of {c : Cf} (h : chk c = 0) : Fits c := by
 unfold chk at h
 cases e1 : t1 c with
 | true => simp [e1] at h
 | false =>
  cases e2 : t2 c with
  | true => simp [e1, e2] at h
  | false =>
   cases e3 : t3 c with
   | true => simp [e1, e2, e3] at h
   | false =>
    cases e4 : t4 c with
    | true => simp [e1, e2, e3, e4] at h
    | false =>
     unfold t1 at e1
     unfold t2 at e2
     unfold t3 at e3
     unfold t4 at e4
     simp only [Bool.or_eq_false_iff] at e1 e3
     have a := outB_false e1.1
     have b := outB_false e1.2
     have d := outB_false e2
     have x := outB_false e3.1.1
     have y := outB_false e3.1.2
     have z := outB_false e3.2
     have u := outB_false e4
     have d' : 1 ≤ c.l := by
      cases hc : c.ca <;> simp [hc] at d <;> omega
     exact ⟨a.1, a.2, b.1, b.2, d', d.2, (fun hc => by simp [hc] at d; omega), x.1, x.2, y.1, y.2, z.1, z.2, u.1, u.2⟩
theorem chk_cases (c : Cf) : chk c = 0 ∨ chk c = 4 ∨ chk c = 10 := by
 unfold chk
 cases t1 c <;> cases t2 c <;> cases t3 c <;> cases t4 c <;> simp
def nod (c : Cf) : Int := if chk c = 0 then c.w * c.h else 0
theorem mul_in {a b : Int} (h1 : 1 ≤ a) (h2 : a ≤ 64) (h3 : 1 ≤ b) (h4 : b ≤ 64) : 1 ≤ a * b ∧ a * b ≤ 4096 := by
 obtain ⟨x, rfl⟩ := Int.eq_ofNat_of_zero_le (by omega : 0 ≤ a)
 obtain ⟨y, rfl⟩ := Int.eq_ofNat_of_zero_le (by omega : 0 ≤ b)
 have g1 : x * y ≤ 64 * 64 := Nat.mul_le_mul (by omega) (by omega)
 have g2 : 1 * 1 ≤ x * y := Nat.mul_le_mul (by omega) (by omega)
 have e : ((x : Int) * (y : Int)) = ((x * y : Nat) : Int) := by simp
 rw [e]
 omega
theorem nodes_any (c : Cf) (w : World) : Calls Tryz.prog 80 #[cfv c] w fun e w' => e = .returned (.int .i64 (nod c)) ∧ Below w.heap.size w w' := by
 have K := check_any c
 have F := fun h => @fits_of c h
 have A0 : Hid (At w c (w.alloc (.cells (cfc c) 23))) := At.start w c
 unfold nod
 rcases chk_cases c with h | h | h
 ·have f := F h
  have hm := mul_in f.w1 f.w2 f.h1 f.h2
  rw [if_pos h]
  rw [h] at K
  clear F h f
  obtain ⟨cw, ch, cl, cd, cr, ci, cb, we, ca⟩ := c
  simp only [cfv, cfc] at *
  obtain ⟨M, hM⟩ : ∃ M : Int, M = cw * ch := ⟨_, rfl⟩
  have HM : Hid (M = cw * ch) := hM
  rw [← hM] at hm ⊢
  obtain ⟨m1, m2⟩ := hm
  clear hM
  go_enter Tryz.func80, Tryz.ntmps80
  go_wp2_with fail
  go_at_call 107
  refine (K _).mono ?_
  rintro e v1 ⟨rfl, hb⟩
  have A1 := A0.out.trans hb
  clear hb K
  obtain ⟨x0, x1, -, -, -, -, -, -, -⟩ := A1.cells
  have HA1 : Hid (At w _ v1) := A1
  clear A1
  go_wp2
  go_ret
  exact ⟨ret_int (by rw [← HM.out]; exact IntWalk.wrap64_in _ (by omega)), HA1.out.below⟩
 all_goals
  have h0 : ¬ chk c = 0 := by rw [h]; decide
  rw [if_neg h0]
  rw [h] at K
  clear F h h0
  obtain ⟨cw, ch, cl, cd, cr, ci, cb, we, ca⟩ := c
  simp only [cfv, cfc] at *
  go_enter Tryz.func80, Tryz.ntmps80
  go_wp2_with fail
  go_at_call 107
  refine (K _).mono ?_
  rintro e v1 ⟨rfl, hb⟩
  have HA1 : Hid (At w _ v1) := A0.out.trans hb
  clear hb K
  go_wp2
  go_ret
  exact ⟨rfl, HA1.out.below⟩
theorem rnodes_any (c : Cf) (w : World) : Calls Tryz.prog 38 #[cfv c] w fun e w' => e = .returned (.int .i64 (nod c)) ∧ Below w.heap.size w w' := by
 have K := rcheck_any c
 have F := fun h => @fits_of c h
 have A0 : Hid (At w c (w.alloc (.cells (cfc c) 23))) := At.start w c
 unfold nod
 rcases chk_cases c with h | h | h
 ·have f := F h
  have hm := mul_in f.w1 f.w2 f.h1 f.h2
  rw [if_pos h]
  rw [h] at K
  clear F h f
  obtain ⟨cw, ch, cl, cd, cr, ci, cb, we, ca⟩ := c
  simp only [cfv, cfc] at *
  obtain ⟨M, hM⟩ : ∃ M : Int, M = cw * ch := ⟨_, rfl⟩
  have HM : Hid (M = cw * ch) := hM
  rw [← hM] at hm ⊢
  obtain ⟨m1, m2⟩ := hm
  clear hM
  go_enter Tryz.func38, Tryz.ntmps38
  go_wp2_with fail
  go_at_call 78
  refine (K _).mono ?_
  rintro e v1 ⟨rfl, hb⟩
  have A1 := A0.out.trans hb
  clear hb K
  obtain ⟨x0, x1, -, -, -, -, -, -, -⟩ := A1.cells
  have HA1 : Hid (At w _ v1) := A1
  clear A1
  go_wp2
  go_ret
  exact ⟨ret_int (by rw [← HM.out]; exact IntWalk.wrap64_in _ (by omega)), HA1.out.below⟩
 all_goals
  have h0 : ¬ chk c = 0 := by rw [h]; decide
  rw [if_neg h0]
  rw [h] at K
  clear F h h0
  obtain ⟨cw, ch, cl, cd, cr, ci, cb, we, ca⟩ := c
  simp only [cfv, cfc] at *
  go_enter Tryz.func38, Tryz.ntmps38
  go_wp2_with fail
  go_at_call 78
  refine (K _).mono ?_
  rintro e v1 ⟨rfl, hb⟩
  have HA1 : Hid (At w _ v1) := A0.out.trans hb
  clear hb K
  go_wp2
  go_ret
  exact ⟨rfl, HA1.out.below⟩
end Go.Proofs.YtmmegmonmilkcaaGreatDoor.G
namespace Go.Proofs.YtmmegmonmilkcaaGreatDoor.G
open Go.RowKit
def cla (c : Cf) (k : Bool) : Int × Int := if chk c = 0 then (if c.ca = true then (if k = true then (c.l - 1, 1) else (0, c.l - 1)) else (if k = true then (0, 0) else (0, c.l))) else (0, 0)
theorem class_any (c : Cf) (k : Bool) (w : World) : Calls Tryz.prog 98 #[cfv c, .bool k] w fun e w' => e = .returned (.tuple #[.int .i64 (cla c k).1, .int .i64 (cla c k).2]) ∧ Below w.heap.size w w' := by
 have K := check_any c
 have F := fun h => @fits_of c h
 have A0 : Hid (At w c (w.alloc (.cells (cfc c) 23))) := At.start w c
 unfold cla
 rcases chk_cases c with h | h | h
 ·have f := F h
  have l1 := f.l1
  have l2 := f.l2
  rw [if_pos h]
  rw [h] at K
  clear F h f
  obtain ⟨cw, ch, cl, cd, cr, ci, cb, we, ca⟩ := c
  simp only [cfv, cfc] at *
  cases ca <;> cases k
  all_goals
   go_enter Tryz.func98, Tryz.ntmps98
   go_wp2_with fail
   go_at_call 107
   refine (K _).mono ?_
   rintro e v1 ⟨rfl, hb⟩
   have A1 := A0.out.trans hb
   clear hb K
   obtain ⟨-, -, x2, -, -, -, -, -, x8⟩ := A1.cells
   have HA1 : Hid (At w _ v1) := A1
   have BB : Hid (∀ n, Below w.heap.size w (v1.drewN n)) := fun n => by
    have h := A1.below
    exact ⟨h.os, h.tape, h.output, h.size, h.block⟩
   clear A1
   go_wp2
   try go_quiet (fail)
   try go_wp2
   go_ret2
   exact ⟨rfl, by first | exact HA1.out.below | exact BB.out _ | exact BB.out 1⟩
 all_goals
  have h0 : ¬ chk c = 0 := by rw [h]; decide
  rw [if_neg h0]
  rw [h] at K
  clear F h h0
  obtain ⟨cw, ch, cl, cd, cr, ci, cb, we, ca⟩ := c
  simp only [cfv, cfc] at *
  go_enter Tryz.func98, Tryz.ntmps98
  go_wp2_with fail
  go_at_call 107
  refine (K _).mono ?_
  rintro e v1 ⟨rfl, hb⟩
  have HA1 : Hid (At w _ v1) := A0.out.trans hb
  clear hb K
  go_wp2
  go_ret2
  exact ⟨rfl, HA1.out.below⟩
theorem rclass_any (c : Cf) (k : Bool) (w : World) : Calls Tryz.prog 56 #[cfv c, .bool k] w fun e w' => e = .returned (.tuple #[.int .i64 (cla c k).1, .int .i64 (cla c k).2]) ∧ Below w.heap.size w w' := by
 have K := rcheck_any c
 have F := fun h => @fits_of c h
 have A0 : Hid (At w c (w.alloc (.cells (cfc c) 23))) := At.start w c
 unfold cla
 rcases chk_cases c with h | h | h
 ·have f := F h
  have l1 := f.l1
  have l2 := f.l2
  rw [if_pos h]
  rw [h] at K
  clear F h f
  obtain ⟨cw, ch, cl, cd, cr, ci, cb, we, ca⟩ := c
  simp only [cfv, cfc] at *
  cases ca <;> cases k
  all_goals
   go_enter Tryz.func56, Tryz.ntmps56
   go_wp2_with fail
   go_at_call 78
   refine (K _).mono ?_
   rintro e v1 ⟨rfl, hb⟩
   have A1 := A0.out.trans hb
   clear hb K
   obtain ⟨-, -, x2, -, -, -, -, -, x8⟩ := A1.cells
   have HA1 : Hid (At w _ v1) := A1
   have BB : Hid (∀ n, Below w.heap.size w (v1.drewN n)) := fun n => by
    have h := A1.below
    exact ⟨h.os, h.tape, h.output, h.size, h.block⟩
   clear A1
   go_wp2
   try go_quiet (fail)
   try go_wp2
   go_ret2
   exact ⟨rfl, by first | exact HA1.out.below | exact BB.out _ | exact BB.out 1⟩
 all_goals
  have h0 : ¬ chk c = 0 := by rw [h]; decide
  rw [if_neg h0]
  rw [h] at K
  clear F h h0
  obtain ⟨cw, ch, cl, cd, cr, ci, cb, we, ca⟩ := c
  simp only [cfv, cfc] at *
  go_enter Tryz.func56, Tryz.ntmps56
  go_wp2_with fail
  go_at_call 78
  refine (K _).mono ?_
  rintro e v1 ⟨rfl, hb⟩
  have HA1 : Hid (At w _ v1) := A0.out.trans hb
  clear hb K
  go_wp2
  go_ret2
  exact ⟨rfl, HA1.out.below⟩
end Go.Proofs.YtmmegmonmilkcaaGreatDoor.G
namespace Go.Proofs.YtmmegmonmilkcaaGreatDoor.G
def isN (c : Cf) (n : Int) : Bool := decide (0 ≤ n) && decide (n < nod c)
def plx (c : Cf) (n : Int) : Int := if isN c n = true then n % c.w else 0
def ply (c : Cf) (n : Int) : Int := if isN c n = true then n / c.w else 0
def ple (c : Cf) (n : Int) : Int := if isN c n = true then 0 else 5
def inP (c : Cf) (x y : Int) : Bool := decide (chk c = 0) && ((decide (0 ≤ x) && decide (x < c.w)) && (decide (0 ≤ y) && decide (y < c.h)))
def atn (c : Cf) (x y : Int) : Int := if inP c x y = true then y * c.w + x else 0
def ate (c : Cf) (x y : Int) : Int := if inP c x y = true then 0 else 5
def dx (p : Int) : Int := if p = 1 then 1 else if p = 2 then -1 else 0
def dy (p : Int) : Int := if p = 3 then 1 else if p = 4 then -1 else 0
def isP (p : Int) : Bool := decide (0 ≤ p) && decide (p < 5)
def bsB (c : Cf) (n p : Int) : Bool := isN c n && (isP p && inP c (plx c n + dx p) (ply c n + dy p))
def bsN (c : Cf) (n p : Int) : Int := if bsB c n p = true then (ply c n + dy p) * c.w + (plx c n + dx p) else 0
def btw (a b : Int) : Int := if a ≤ b then b - a else a - b
def fr (c : Cf) (a b : Int) : Int := if (isN c a && isN c b) = true then btw (plx c a) (plx c b) + btw (ply c a) (ply c b) else -1
theorem nod_of {c : Cf} (h : chk c = 0) : nod c = c.w * c.h := by unfold nod; rw [if_pos h]
theorem nod_not {c : Cf} (h : chk c ≠ 0) : nod c = 0 := by unfold nod; rw [if_neg h]
theorem nod_in (c : Cf) : 0 ≤ nod c ∧ nod c ≤ 4096 := by
 by_cases h : chk c = 0
 ·have f := fits_of h
  have := mul_in f.w1 f.w2 f.h1 f.h2
  rw [nod_of h]
  omega
 ·rw [nod_not h]; omega
theorem isN_ok {c : Cf} {n : Int} (h : isN c n = true) : chk c = 0 ∧ 0 ≤ n ∧ n < c.w * c.h := by
 unfold isN at h
 simp only [Bool.and_eq_true, decide_eq_true_eq] at h
 by_cases hc : chk c = 0
 ·rw [nod_of hc] at h
  exact ⟨hc, h.1, h.2⟩
 ·rw [nod_not hc] at h
  omega
theorem isN_mk {c : Cf} {n : Int} (h : chk c = 0) (h0 : 0 ≤ n) (h1 : n < c.w * c.h) : isN c n = true := by
 unfold isN
 rw [nod_of h]
 simp [h0, h1]
theorem isN_lt {c : Cf} {n : Int} (h : isN c n = true) : 0 ≤ n ∧ n < 4096 := by
 unfold isN at h
 simp only [Bool.and_eq_true, decide_eq_true_eq] at h
 have := nod_in c
 omega
theorem place_of {c : Cf} {n : Int} (h : isN c n = true) : chk c = 0 ∧ 0 ≤ plx c n ∧ plx c n < c.w ∧ 0 ≤ ply c n ∧ ply c n < c.h ∧ ply c n * c.w + plx c n = n := by
 obtain ⟨hc, h0, h1⟩ := isN_ok h
 have f := fits_of hc
 have hw : 0 < c.w := by have := f.w1; omega
 unfold plx ply
 rw [if_pos h, if_pos h]
 refine ⟨hc, Int.emod_nonneg _ (by omega), Int.emod_lt_of_pos _ hw, Int.ediv_nonneg h0 (by omega), ?_, ?_⟩
 ·exact Int.ediv_lt_of_lt_mul hw (by rw [Int.mul_comm]; exact h1)
 ·have := Int.mul_ediv_add_emod n c.w
  rw [Int.mul_comm] at this
  exact this
theorem plx_in (c : Cf) (n : Int) : 0 ≤ plx c n ∧ plx c n ≤ 63 := by
 cases h : isN c n with
 | true =>
  obtain ⟨hc, a, b, _⟩ := place_of h
  have := (fits_of hc).w2
  omega
 | false => unfold plx; rw [h]; simp
theorem ply_in (c : Cf) (n : Int) : 0 ≤ ply c n ∧ ply c n ≤ 63 := by
 cases h : isN c n with
 | true =>
  obtain ⟨hc, _, _, a, b, _⟩ := place_of h
  have := (fits_of hc).h2
  omega
 | false => unfold ply; rw [h]; simp
theorem inP_ok {c : Cf} {x y : Int} (h : inP c x y = true) : chk c = 0 ∧ 0 ≤ x ∧ x < c.w ∧ 0 ≤ y ∧ y < c.h := by
 unfold inP at h
 simp only [Bool.and_eq_true, decide_eq_true_eq] at h
 exact ⟨h.1, h.2.1.1, h.2.1.2, h.2.2.1, h.2.2.2⟩
theorem inP_mk {c : Cf} {x y : Int} (h : chk c = 0) (h1 : 0 ≤ x) (h2 : x < c.w) (h3 : 0 ≤ y) (h4 : y < c.h) : inP c x y = true := by
 unfold inP
 simp [h, h1, h2, h3, h4]
theorem node_in {c : Cf} {x y : Int} (h : inP c x y = true) : 0 ≤ y * c.w ∧ y * c.w + x < c.w * c.h ∧ y * c.w ≤ 4096 ∧ c.w * c.h ≤ 4096 := by
 obtain ⟨hc, h1, h2, h3, h4⟩ := inP_ok h
 have f := fits_of hc
 have hw : 0 ≤ c.w := by have := f.w1; omega
 have a : 0 ≤ y * c.w := Int.mul_nonneg h3 hw
 have b : y * c.w ≤ (c.h - 1) * c.w := Int.mul_le_mul_of_nonneg_right (by omega) hw
 have e : (c.h - 1) * c.w = c.w * c.h - c.w := by rw [Int.sub_mul, Int.mul_comm]; omega
 have m := mul_in f.w1 f.w2 f.h1 f.h2
 have := f.w1
 omega
theorem node_of {c : Cf} {x y : Int} (h : inP c x y = true) : isN c (y * c.w + x) = true ∧ plx c (y * c.w + x) = x ∧ ply c (y * c.w + x) = y := by
 obtain ⟨hc, h1, h2, h3, h4⟩ := inP_ok h
 obtain ⟨a, b, _, _⟩ := node_in h
 have i : isN c (y * c.w + x) = true := isN_mk hc (by omega) b
 refine ⟨i, ?_, ?_⟩
 ·unfold plx
  rw [if_pos i, Int.add_comm, Int.add_mul_emod_self_right]
  exact Int.emod_eq_of_lt h1 h2
 ·unfold ply
  rw [if_pos i, Int.add_comm, Int.add_mul_ediv_right _ _ (by omega), Int.ediv_eq_zero_of_lt h1 h2]
  omega
theorem isP_iff (p : Int) : isP p = true ↔ p = 0 ∨ p = 1 ∨ p = 2 ∨ p = 3 ∨ p = 4 := by
 unfold isP
 simp only [Bool.and_eq_true, decide_eq_true_eq]
 omega
theorem step_ok {c : Cf} {n p : Int} (h : bsB c n p = true) :
  isN c n = true ∧ isP p = true ∧ inP c (plx c n + dx p) (ply c n + dy p) = true ∧ isN c (bsN c n p) = true ∧ plx c (bsN c n p) = plx c n + dx p ∧ ply c (bsN c n p) = ply c n + dy p := by
 have h' := h
 unfold bsB at h
 simp only [Bool.and_eq_true] at h
 obtain ⟨a, b, d⟩ := h
 have e := node_of d
 unfold bsN
 rw [if_pos h']
 exact ⟨a, b, d, e⟩
theorem step_mk {c : Cf} {n p : Int} (h : isN c n = true) (hp : isP p = true) (h1 : 0 ≤ plx c n + dx p) (h2 : plx c n + dx p < c.w) (h3 : 0 ≤ ply c n + dy p) (h4 : ply c n + dy p < c.h) : bsB c n p = true := by
 unfold bsB
 rw [h, hp, inP_mk (place_of h).1 h1 h2 h3 h4]
 rfl
theorem node_eq {c : Cf} {a b : Int} (ha : isN c a = true) (hb : isN c b = true) (hx : plx c a = plx c b) (hy : ply c a = ply c b) : a = b := by
 have ea := (place_of ha).2.2.2.2.2
 have eb := (place_of hb).2.2.2.2.2
 rw [← ea, ← eb, hx, hy]
end Go.Proofs.YtmmegmonmilkcaaGreatDoor.G
namespace Go.Proofs.YtmmegmonmilkcaaGreatDoor.G
open Go.RowKit
theorem At.drew {w v : World} {c : Cf} (h : At w c v) : At w c v.drew := by
 have b : Below (w.heap.size + 1) (w.alloc (.cells (cfc c) 23)) v := h
 exact ⟨b.os, b.tape, b.output, b.size, b.block⟩
theorem At.drewN {w v : World} {c : Cf} (h : At w c v) (n : Nat) : At w c (v.drewN n) := by
 have b : Below (w.heap.size + 1) (w.alloc (.cells (cfc c) 23)) v := h
 exact ⟨b.os, b.tape, b.output, b.size, b.block⟩
theorem isBelow_any (n l : Int) (w : World) : Calls Tryz.prog 79 #[.int .i64 n, .int .i64 l] w fun e w' => e = .returned (.bool (decide (0 ≤ n) && decide (n < l))) ∧ w = w' := by
 by_cases h0 : 0 ≤ n
 ·by_cases h1 : n < l
  ·rw [show (decide (0 ≤ n) && decide (n < l)) = true by simp [h0, h1]]
   go_enter Tryz.func79, Tryz.ntmps79
   go_wp2
   go_ret
   exact ⟨rfl, rfl⟩
  ·rw [show (decide (0 ≤ n) && decide (n < l)) = false by simp [h1]]
   go_enter Tryz.func79, Tryz.ntmps79
   go_wp2
   go_ret
   exact ⟨rfl, rfl⟩
 ·rw [show (decide (0 ≤ n) && decide (n < l)) = false by simp [h0]]
  go_enter Tryz.func79, Tryz.ntmps79
  go_wp2
  go_ret
  exact ⟨rfl, rfl⟩
theorem is_any (c : Cf) (n : Int) (w : World) : Calls Tryz.prog 39 #[cfv c, .int .i64 n] w fun e w' => e = .returned (.bool (isN c n)) ∧ Below w.heap.size w w' := by
 have K := nodes_any c
 have I := isBelow_any n (nod c)
 have A0 : Hid (At w c (w.alloc (.cells (cfc c) 23))) := At.start w c
 unfold isN
 generalize nod c = M at *
 generalize (decide (0 ≤ n) && decide (n < M)) = t at *
 obtain ⟨cw, ch, cl, cd, cr, ci, cb, we, ca⟩ := c
 simp only [cfv, cfc] at *
 go_enter Tryz.func39, Tryz.ntmps39
 go_wp2_with fail
 go_at_call 80
 refine (K _).mono ?_
 rintro e v1 ⟨rfl, hb⟩
 have HA1 : Hid (At w _ v1) := A0.out.trans hb
 clear hb K
 go_wp2_with fail
 go_at_call 79
 refine (I _).mono ?_
 rintro e v2 ⟨rfl, rfl⟩
 go_wp2
 go_ret
 exact ⟨rfl, HA1.out.below⟩
theorem place_any (c : Cf) (n : Int) (w : World) : Calls Tryz.prog 138 #[cfv c, .int .i64 n] w fun e w' => e = .returned (.tuple #[.int .i64 (plx c n), .int .i64 (ply c n), .int .i64 (ple c n)]) ∧ Below w.heap.size w w' := by
 have K := is_any c n
 have A0 : Hid (At w c (w.alloc (.cells (cfc c) 23))) := At.start w c
 cases h : isN c n with
 | true =>
  obtain ⟨hc, h0, h1⟩ := isN_ok h
  have f := fits_of hc
  have ex : (n.tmod c.w) = plx c n := by rw [Int.tmod_eq_emod_of_nonneg h0]; unfold plx; rw [if_pos h]
  have ey : (n.tdiv c.w) = ply c n := by rw [Int.tdiv_eq_ediv_of_nonneg h0]; unfold ply; rw [if_pos h]
  have ee : ple c n = 0 := by unfold ple; rw [if_pos h]
  have px := plx_in c n
  have py := ply_in c n
  have w1 := f.w1
  have w2 := f.w2
  have hn := (isN_lt h).2
  rw [ee]
  rw [h] at K
  generalize plx c n = X at *
  generalize ply c n = Y at *
  clear ee hc h1 f h
  obtain ⟨cw, ch, cl, cd, cr, ci, cb, we, ca⟩ := c
  simp only [cfv, cfc] at *
  go_enter Tryz.func138, Tryz.ntmps138
  go_wp2_with fail
  go_at_call 39
  refine (K _).mono ?_
  rintro e v1 ⟨rfl, hb⟩
  have A1 := A0.out.trans hb
  clear hb K
  obtain ⟨x0, -, -, -, -, -, -, -, -⟩ := A1.cells
  have HA1 : Hid (At w _ v1) := A1
  have BB : Hid (∀ n, Below w.heap.size w (v1.drewN n)) := fun n => (A1.drewN n).below
  clear A1
  simp only at x0
  go_wp2_with fail
  go_quiet (fail)
  go_wp2
  go_ret3
  exact ⟨rfl, by first | exact BB.out _ | exact BB.out 1 | exact HA1.out.below⟩
 | false =>
  have ex : plx c n = 0 := by unfold plx; rw [h]; rfl
  have ey : ply c n = 0 := by unfold ply; rw [h]; rfl
  have ee : ple c n = 5 := by unfold ple; rw [h]; rfl
  rw [ex, ey, ee]
  rw [h] at K
  clear ex ey ee h
  obtain ⟨cw, ch, cl, cd, cr, ci, cb, we, ca⟩ := c
  simp only [cfv, cfc] at *
  go_enter Tryz.func138, Tryz.ntmps138
  go_wp2_with fail
  go_at_call 39
  refine (K _).mono ?_
  rintro e v1 ⟨rfl, hb⟩
  have HA1 : Hid (At w _ v1) := A0.out.trans hb
  clear hb K
  go_wp2
  go_ret3
  exact ⟨rfl, HA1.out.below⟩
theorem at_any (c : Cf) (x y : Int) (w : World) : Calls Tryz.prog 139 #[cfv c, .int .i64 x, .int .i64 y] w fun e w' => e = .returned (.tuple #[.int .i64 (atn c x y), .int .i64 (ate c x y)]) ∧ Below w.heap.size w w' := by
 have K := check_any c
 have I := isBelow_any x c.w
 have J := isBelow_any y c.h
 have A0 : Hid (At w c (w.alloc (.cells (cfc c) 23))) := At.start w c
 cases h : inP c x y with
 | true =>
  obtain ⟨hc, h1, h2, h3, h4⟩ := inP_ok h
  obtain ⟨g1, g2, g3, g4⟩ := node_in h
  have f := fits_of hc
  have ea : atn c x y = y * c.w + x := by unfold atn; rw [if_pos h]
  have ee : ate c x y = 0 := by unfold ate; rw [if_pos h]
  rw [ea, ee]
  rw [hc] at K
  rw [show (decide (0 ≤ x) && decide (x < c.w)) = true by simp [h1, h2]] at I
  rw [show (decide (0 ≤ y) && decide (y < c.h)) = true by simp [h3, h4]] at J
  have hx : x ≤ 63 := by have := f.w2; omega
  have hy : y ≤ 63 := by have := f.h2; omega
  clear ea ee hc f h h2 h4 g2 g4
  obtain ⟨cw, ch, cl, cd, cr, ci, cb, we, ca⟩ := c
  simp only [cfv, cfc] at *
  obtain ⟨M, hM⟩ : ∃ M : Int, y * cw = M := ⟨_, rfl⟩
  rw [hM] at g1 g3 ⊢
  have HM : Hid (y * cw = M) := hM
  clear hM
  go_enter Tryz.func139, Tryz.ntmps139
  go_wp2_with fail
  go_at_call 107
  refine (K _).mono ?_
  rintro e v1 ⟨rfl, hb⟩
  have A1 := A0.out.trans hb
  clear hb K
  obtain ⟨x0, x1, -, -, -, -, -, -, -⟩ := A1.cells
  have HA1 : Hid (At w _ v1) := A1
  clear A1
  simp only at x0 x1
  go_wp2_with fail
  go_at_call 79
  refine (I _).mono ?_
  rintro e v2 ⟨rfl, rfl⟩
  go_wp2_with fail
  go_at_call 79
  refine (J _).mono ?_
  rintro e v2 ⟨rfl, rfl⟩
  clear I J
  have hM := HM.out
  go_wp2
  go_ret2
  exact ⟨rfl, HA1.out.below⟩
 | false =>
  have ea : atn c x y = 0 := by unfold atn; rw [h]; rfl
  have ee : ate c x y = 5 := by unfold ate; rw [h]; rfl
  rw [ea, ee]
  clear ea ee
  unfold inP at h
  have h' : chk c = 0 → (decide (0 ≤ x) && decide (x < c.w)) = true → (decide (0 ≤ y) && decide (y < c.h)) = false := fun hc hx => by
   rw [hx] at h
   simpa [hc] using h
  clear h
  rcases chk_cases c with hc | hc | hc
  ·have h' := h' hc
   rw [hc] at K
   clear hc
   obtain ⟨cw, ch, cl, cd, cr, ci, cb, we, ca⟩ := c
   simp only [cfv, cfc] at *
   generalize (decide (0 ≤ x) && decide (x < cw)) = s at *
   generalize (decide (0 ≤ y) && decide (y < ch)) = t at *
   cases s with
   | true =>
    obtain rfl := h' rfl
    clear h'
    go_enter Tryz.func139, Tryz.ntmps139
    go_wp2_with fail
    go_at_call 107
    refine (K _).mono ?_
    rintro e v1 ⟨rfl, hb⟩
    have A1 := A0.out.trans hb
    clear hb K
    obtain ⟨x0, x1, -, -, -, -, -, -, -⟩ := A1.cells
    have HA1 : Hid (At w _ v1) := A1
    clear A1
    simp only at x0 x1
    go_wp2_with fail
    go_at_call 79
    refine (I _).mono ?_
    rintro e v2 ⟨rfl, rfl⟩
    go_wp2_with fail
    go_at_call 79
    refine (J _).mono ?_
    rintro e v2 ⟨rfl, rfl⟩
    clear I J
    go_wp2
    go_ret2
    exact ⟨rfl, HA1.out.below⟩
   | false =>
    clear h' J
    go_enter Tryz.func139, Tryz.ntmps139
    go_wp2_with fail
    go_at_call 107
    refine (K _).mono ?_
    rintro e v1 ⟨rfl, hb⟩
    have A1 := A0.out.trans hb
    clear hb K
    obtain ⟨x0, x1, -, -, -, -, -, -, -⟩ := A1.cells
    have HA1 : Hid (At w _ v1) := A1
    clear A1
    simp only at x0 x1
    go_wp2_with fail
    go_at_call 79
    refine (I _).mono ?_
    rintro e v2 ⟨rfl, rfl⟩
    clear I
    go_wp2
    go_ret2
    exact ⟨rfl, HA1.out.below⟩
  all_goals
   rw [hc] at K
   clear h' hc I J
   obtain ⟨cw, ch, cl, cd, cr, ci, cb, we, ca⟩ := c
   simp only [cfv, cfc] at *
   go_enter Tryz.func139, Tryz.ntmps139
   go_wp2_with fail
   go_at_call 107
   refine (K _).mono ?_
   rintro e v1 ⟨rfl, hb⟩
   have HA1 : Hid (At w _ v1) := A0.out.trans hb
   clear hb K
   go_wp2
   go_ret2
   exact ⟨rfl, HA1.out.below⟩
end Go.Proofs.YtmmegmonmilkcaaGreatDoor.G
namespace Go.Proofs.YtmmegmonmilkcaaGreatDoor.G
def tx (c : Cf) (n : Int) : Int := if ply c n % 2 = 1 then c.w - 1 - plx c n else plx c n
def lb (c : Cf) (n : Int) : Int := if isN c n = true then ply c n * c.w + tx c n else 0
theorem lb_no {c : Cf} {n : Int} (h : isN c n = false) : lb c n = 0 := by unfold lb; rw [h]; rfl
theorem tx_in {c : Cf} {n : Int} (h : isN c n = true) : inP c (tx c n) (ply c n) = true := by
 obtain ⟨hc, a1, a2, a3, a4, _⟩ := place_of h
 unfold tx
 split
 ·exact inP_mk hc (by omega) (by omega) a3 a4
 ·exact inP_mk hc a1 a2 a3 a4
theorem lb_at {c : Cf} {n : Int} (h : isN c n = true) : lb c n = atn c (tx c n) (ply c n) ∧ ate c (tx c n) (ply c n) = 0 := by
 unfold lb atn ate
 rw [h, tx_in h]
 exact ⟨rfl, rfl⟩
theorem lb_ok {c : Cf} {n : Int} (h : isN c n = true) : isN c (lb c n) = true ∧ plx c (lb c n) = tx c n ∧ ply c (lb c n) = ply c n := by
 have e : lb c n = ply c n * c.w + tx c n := by unfold lb; rw [h]; rfl
 rw [e]
 exact node_of (tx_in h)
theorem lb_in (c : Cf) (n : Int) : 0 ≤ lb c n ∧ lb c n < 4096 := by
 cases h : isN c n with
 | true => exact isN_lt (lb_ok h).1
 | false => rw [lb_no h]; omega
def nea (c : Cf) (a g m p : Int) : Bool := bsB c a p && ((decide (m < lb c (bsN c a p)) && decide (lb c (bsN c a p) ≤ g)) || (decide (g ≤ lb c (bsN c a p)) && decide (lb c (bsN c a p) < m)))
def stK (c : Cf) (a g : Int) : Nat → Int × Int
 | 0 => (0, lb c a)
 | k + 1 => if nea c a g (stK c a g k).2 (k : Int) = true then ((k : Int), lb c (bsN c a (k : Int))) else stK c a g k
def stp (c : Cf) (a t : Int) : Int := if (isN c a && isN c t) = true then (stK c a (lb c t) 5).1 else 0
def stB (c : Cf) (a t : Int) : Bool := isN c a && isN c t
def nx (c : Cf) (a t : Int) : Int := bsN c a (stp c a t)
theorem nea_iff {c : Cf} {a g m p : Int} : nea c a g m p = true ↔ bsB c a p = true ∧ ((m < lb c (bsN c a p) ∧ lb c (bsN c a p) ≤ g) ∨ (g ≤ lb c (bsN c a p) ∧ lb c (bsN c a p) < m)) := by
 unfold nea
 simp only [Bool.and_eq_true, Bool.or_eq_true, decide_eq_true_eq]
theorem stK_one {c : Cf} {a g : Int} (h : isN c a = true) : stK c a g 1 = (0, lb c a) := by
 show (if nea c a g (stK c a g 0).2 ((0 : Nat) : Int) = true then _ else stK c a g 0) = _
 rw [if_neg]
 ·rfl
 ·intro e
  have e := (nea_iff.1 e).2
  have s : bsN c a ((0 : Nat) : Int) = a := by
   have hb : bsB c a 0 = true := by
    obtain ⟨_, a1, a2, a3, a4, _⟩ := place_of h
    exact step_mk h rfl (by rw [show dx 0 = 0 from rfl]; omega) (by rw [show dx 0 = 0 from rfl]; omega) (by rw [show dy 0 = 0 from rfl]; omega) (by rw [show dy 0 = 0 from rfl]; omega)
   obtain ⟨_, _, _, s1, s2, s3⟩ := step_ok hb
   exact node_eq s1 h (by rw [show ((0 : Nat) : Int) = 0 from rfl, s2, show dx 0 = 0 from rfl]; omega) (by rw [show ((0 : Nat) : Int) = 0 from rfl, s3, show dy 0 = 0 from rfl]; omega)
  rw [s] at e
  have : (stK c a g 0).2 = lb c a := rfl
  omega
theorem stK_in (c : Cf) (a g : Int) (k : Nat) : 0 ≤ (stK c a g k).1 ∧ (stK c a g k).1 ≤ k ∧ 0 ≤ (stK c a g k).2 ∧ (stK c a g k).2 < 4096 := by
 induction k with
 | zero =>
  have := lb_in c a
  simp only [stK]
  omega
 | succ k ih =>
  simp only [stK]
  split
  ·have := lb_in c (bsN c a (k : Int))
   dsimp only
   omega
  ·omega
def rest : List Int → List Int → List Int
 | ts, [] => ts
 | [], _ :: _ => []
 | t :: ts, x :: w => if x = t then rest ts w else rest (t :: ts) w
end Go.Proofs.YtmmegmonmilkcaaGreatDoor.G
namespace Go.Proofs.YtmmegmonmilkcaaGreatDoor.G.Gr
open Go.RowKit
structure Below (B : Nat) (w w' : World) : Prop where
 os : w'.os = w.os
 tape : w'.tape = w.tape
 output : w'.output = w.output
 size : w.heap.size ≤ w'.heap.size
 block : ∀ k, k < B → w'.heap[k]? = w.heap[k]?
 drawn : w.drawn ≤ w'.drawn
theorem Below.plain {B : Nat} {w w' : World} (h : Below B w w') : Go.RowKit.Below B w w' := ⟨h.os, h.tape, h.output, h.size, h.block⟩
theorem Below.refl (B : Nat) (w : World) : Below B w w := ⟨rfl, rfl, rfl, Nat.le_refl _, fun _ _ => rfl, Nat.le_refl _⟩
theorem Below.trans {B : Nat} {a b c : World} (h : Below B a b) (k : Below B b c) : Below B a c :=
 ⟨k.os.trans h.os, k.tape.trans h.tape, k.output.trans h.output, Nat.le_trans h.size k.size, fun i hi => (k.block i hi).trans (h.block i hi), Nat.le_trans h.drawn k.drawn⟩
theorem Below.mono {B B' : Nat} {w w' : World} (h : Below B w w') (hB : B' ≤ B) : Below B' w w' := ⟨h.os, h.tape, h.output, h.size, fun k hk => h.block k (Nat.lt_of_lt_of_le hk hB), h.drawn⟩
theorem Below.drewN {B : Nat} {a w : World} (h : Below B a w) (n : Nat) : Below B a (w.drewN n) := ⟨h.os, h.tape, h.output, h.size, h.block, Nat.le_trans h.drawn (Nat.le_add_right _ _)⟩
theorem Below.alloc {B : Nat} {a w : World} (h : Below B a w) (hB : B ≤ w.heap.size) (o : Obj) : Below B a (w.alloc o) :=
 h.trans ⟨rfl, rfl, rfl, by simp, fun k hk => Go.RowKit.Below.heap_alloc _ _ _ (by omega), Nat.le_refl _⟩
theorem Below.cell {B : Nat} {w w' : World} (h : Below B w w') {p : Addr} (hp : p.block < B) : w'.cell? p = w.cell? p := h.plain.cell hp
theorem within_any (lo hi : Int) (b : Nat) (zs : List Int) (n c : Nat) (w : World) (hz : zs.length ≤ 100) (hn : zs.length = n) (hb : b < w.heap.size) (hc : ∀ j, j < zs.length → w.cell? ⟨b, j, none⟩ = some (.int .i64 (zs.getD j 0))) :
  Calls Tryz.prog 131 #[.int .i64 lo, .int .i64 hi, .slice (some ⟨b, 0, none⟩) n c] w fun e w' => e = .returned (.bool (!(zs.any (outB lo hi)))) ∧ Below w.heap.size w w' := by
 subst hn
 have b0 : Hid (Below w.heap.size w ((w.alloc (.cells #[.int .i64 lo] 3)).alloc (.cells #[.int .i64 hi] 3))) := ((Below.refl _ _).alloc (Nat.le_refl _) _).alloc (by simp) _
 have K := contains_any lo hi b zs c ⟨w.heap.size, 0, none⟩ ⟨w.heap.size + 1, 0, none⟩ ((w.alloc (.cells #[.int .i64 lo] 3)).alloc (.cells #[.int .i64 hi] 3)) (by go_simp) (by go_simp) hz
  (fun j hj => by rw [b0.out.cell (p := ⟨b, j, none⟩) hb]; exact hc j hj)
 clear hc
 generalize zs.any (outB lo hi) = t at *
 generalize zs.length = n at *
 go_enter Tryz.func131, Tryz.ntmps131
 go_wp2_with (go_at_call 146; (with_reducible refine K.mono ?_); rintro e w' ⟨rfl, rfl⟩)
 go_ret
 exact ⟨rfl, b0.out⟩
theorem within1 (lo hi x : Int) (b c : Nat) (w : World) (hb : b < w.heap.size) (h0 : w.cell? ⟨b, 0, none⟩ = some (.int .i64 x)) :
  Calls Tryz.prog 131 #[.int .i64 lo, .int .i64 hi, .slice (some ⟨b, 0, none⟩) 1 c] w fun e w' => e = .returned (.bool (!(outB lo hi x))) ∧ Below w.heap.size w w' := by
 have h := within_any lo hi b [x] 1 c w (by simp) rfl hb (fun j hj => by
  have : j < 1 := hj
  obtain rfl : j = 0 := by omega
  exact h0)
 simpa using h
theorem within2 (lo hi x y : Int) (b c : Nat) (w : World) (hb : b < w.heap.size) (h0 : w.cell? ⟨b, 0, none⟩ = some (.int .i64 x)) (h1 : w.cell? ⟨b, 1, none⟩ = some (.int .i64 y)) :
  Calls Tryz.prog 131 #[.int .i64 lo, .int .i64 hi, .slice (some ⟨b, 0, none⟩) 2 c] w fun e w' => e = .returned (.bool (!(outB lo hi x || outB lo hi y))) ∧ Below w.heap.size w w' := by
 have h := within_any lo hi b [x, y] 2 c w (by simp) rfl hb (fun j hj => by
  have : j < 2 := hj
  rcases (by omega : j = 0 ∨ j = 1) with rfl | rfl
  ·exact h0
  ·exact h1)
 simpa using h
theorem within3 (lo hi x y z : Int) (b c : Nat) (w : World) (hb : b < w.heap.size) (h0 : w.cell? ⟨b, 0, none⟩ = some (.int .i64 x)) (h1 : w.cell? ⟨b, 1, none⟩ = some (.int .i64 y)) (h2 : w.cell? ⟨b, 2, none⟩ = some (.int .i64 z)) :
  Calls Tryz.prog 131 #[.int .i64 lo, .int .i64 hi, .slice (some ⟨b, 0, none⟩) 3 c] w fun e w' => e = .returned (.bool (!(outB lo hi x || outB lo hi y || outB lo hi z))) ∧ Below w.heap.size w w' := by
 have h := within_any lo hi b [x, y, z] 3 c w (by simp) rfl hb (fun j hj => by
  have : j < 3 := hj
  rcases (by omega : j = 0 ∨ j = 1 ∨ j = 2) with rfl | rfl | rfl
  ·exact h0
  ·exact h1
  ·exact h2)
 simpa [Bool.or_assoc] using h
def At (w : World) (c : Cf) (v : World) : Prop := Below (w.heap.size + 1) (w.alloc (.cells (cfc c) 23)) v
theorem At.start (w : World) (c : Cf) : At w c (w.alloc (.cells (cfc c) 23)) := Below.refl _ _
theorem At.cell {w v : World} {c : Cf} (h : At w c v) (j : Nat) : v.cell? ⟨w.heap.size, j, none⟩ = (cfc c)[j]? := by
 rw [Below.cell h (p := ⟨w.heap.size, j, none⟩) (by simp), World.cell?_alloc_at _ _ _ _ rfl]
theorem At.size {w v : World} {c : Cf} (h : At w c v) : w.heap.size + 1 ≤ v.heap.size := by
 have := Below.size h
 simpa using this
theorem At.trans {w v v' : World} {c : Cf} (h : At w c v) (hb : Below v.heap.size v v') : At w c v' := Below.trans h (hb.mono h.size)
theorem At.alloc {w v : World} {c : Cf} (h : At w c v) (o : Obj) : At w c (v.alloc o) := Below.alloc h h.size o
theorem At.below {w v : World} {c : Cf} (h : At w c v) : Below w.heap.size w v :=
 ((Below.refl _ _).alloc (Nat.le_refl _) _).trans (Below.mono h (by omega))
theorem At.cells {w v : World} {c : Cf} (h : At w c v) :
  v.cell? ⟨w.heap.size, 0, none⟩ = some (.int .i64 c.w) ∧ v.cell? ⟨w.heap.size, 1, none⟩ = some (.int .i64 c.h) ∧ v.cell? ⟨w.heap.size, 2, none⟩ = some (.int .i64 c.l) ∧
  v.cell? ⟨w.heap.size, 3, none⟩ = some (.int .i64 c.d) ∧ v.cell? ⟨w.heap.size, 4, none⟩ = some (.int .i64 c.r) ∧ v.cell? ⟨w.heap.size, 5, none⟩ = some (.int .i64 c.i) ∧
  v.cell? ⟨w.heap.size, 6, none⟩ = some (.int .i64 c.b) ∧ v.cell? ⟨w.heap.size, 7, none⟩ = some (.bool c.we) ∧ v.cell? ⟨w.heap.size, 8, none⟩ = some (.bool c.ca) :=
 ⟨h.cell 0, h.cell 1, h.cell 2, h.cell 3, h.cell 4, h.cell 5, h.cell 6, h.cell 7, h.cell 8⟩
set_option maxHeartbeats 1000000 in
theorem check_any (c : Cf) (w : World) : Calls Tryz.prog 107 #[cfv c] w fun e w' => e = .returned (.int .i64 (chk c)) ∧ Below w.heap.size w w' := by
 have K1 := within2 1 64 c.w c.h
 have K2 := within1 (if c.ca then 2 else 1) 8 c.l
 have K3 := within3 1 64 c.d c.r c.i
 have K4 := within1 1 16 c.b
 unfold chk
 change ∀ b cc w, _ → _ → _ → Calls _ _ _ _ (fun e w' => e = .returned (.bool (!(t1 c))) ∧ _) at K1
 change ∀ b cc w, _ → _ → Calls _ _ _ _ (fun e w' => e = .returned (.bool (!(t2 c))) ∧ _) at K2
 change ∀ b cc w, _ → _ → _ → _ → Calls _ _ _ _ (fun e w' => e = .returned (.bool (!(t3 c))) ∧ _) at K3
 change ∀ b cc w, _ → _ → Calls _ _ _ _ (fun e w' => e = .returned (.bool (!(t4 c))) ∧ _) at K4
 generalize t1 c = T1 at *
 generalize t2 c = T2 at *
 generalize t3 c = T3 at *
 generalize t4 c = T4 at *
 have A0 : Hid (At w c (w.alloc (.cells (cfc c) 23))) := At.start w c
 have sz : Hid ((w.alloc (.cells (cfc c) 23)).heap.size = w.heap.size + 1) := by simp [Hid]
 obtain ⟨cw, ch, cl, cd, cr, ci, cb, we, ca⟩ := c
 simp only [cfv, cfc] at *
 cases ca
 all_goals
  simp only [if_true, if_false, Bool.false_eq_true] at K2
  go_enter Tryz.func107, Tryz.ntmps107
  go_wp2_with fail
  go_at_call 131
  refine (K1 _ _ _ (by simp) (by go_simp) (by go_simp)).mono ?_
  rintro e v1 ⟨rfl, hb⟩
  have A1 := (A0.out.alloc _).trans hb
  clear hb K1
  obtain ⟨-, -, x2, x3, x4, x5, x6, -, -⟩ := A1.cells
  have Z1 : w.heap.size < v1.heap.size := by have := A1.size; omega
  have HA1 : Hid (At w _ v1) := A1
  clear A1
  cases T1 with
  | true =>
   go_wp2
   go_ret
   exact ⟨rfl, HA1.out.below⟩
  | false =>
   go_wp2_with fail
   go_at_call 131
   refine (K2 _ _ _ (by simp) (by go_simp)).mono ?_
   rintro e v2 ⟨rfl, hb⟩
   clear x2 x3 x4 x5 x6 Z1 K2
   have A2 := (HA1.out.alloc _).trans hb
   clear hb
   obtain ⟨-, -, -, x3, x4, x5, x6, -, -⟩ := A2.cells
   have Z2 : w.heap.size < v2.heap.size := by have := A2.size; omega
   have HA2 : Hid (At w _ v2) := A2
   clear A2 HA1
   cases T2 with
   | true =>
    go_wp2
    go_ret
    exact ⟨rfl, HA2.out.below⟩
   | false =>
    go_wp2_with fail
    go_at_call 131
    refine (K3 _ _ _ (by simp) (by go_simp) (by go_simp) (by go_simp)).mono ?_
    rintro e v3 ⟨rfl, hb⟩
    clear x3 x4 x5 x6 Z2 K3
    have A3 := (HA2.out.alloc _).trans hb
    clear hb
    obtain ⟨-, -, -, -, -, -, x6, -, -⟩ := A3.cells
    have Z3 : w.heap.size < v3.heap.size := by have := A3.size; omega
    have HA3 : Hid (At w _ v3) := A3
    clear A3 HA2
    cases T3 with
    | true =>
     go_wp2
     go_ret
     exact ⟨rfl, HA3.out.below⟩
    | false =>
     go_wp2_with fail
     go_at_call 131
     refine (K4 _ _ _ (by simp) (by go_simp)).mono ?_
     rintro e v4 ⟨rfl, hb⟩
     clear x6 Z3 K4
     have A4 := (HA3.out.alloc _).trans hb
     have HA4 : Hid (At w _ v4) := A4
     clear A4 HA3 hb
     cases T4 with
     | true =>
      go_wp2
      go_ret
      exact ⟨rfl, HA4.out.below⟩
     | false =>
      go_wp2
      go_ret
      exact ⟨rfl, HA4.out.below⟩
theorem nodes_any (c : Cf) (w : World) : Calls Tryz.prog 80 #[cfv c] w fun e w' => e = .returned (.int .i64 (nod c)) ∧ Below w.heap.size w w' := by
 have K := check_any c
 have F := fun h => @fits_of c h
 have A0 : Hid (At w c (w.alloc (.cells (cfc c) 23))) := At.start w c
 unfold nod
 rcases chk_cases c with h | h | h
 ·have f := F h
  have hm := mul_in f.w1 f.w2 f.h1 f.h2
  rw [if_pos h]
  rw [h] at K
  clear F h f
  obtain ⟨cw, ch, cl, cd, cr, ci, cb, we, ca⟩ := c
  simp only [cfv, cfc] at *
  obtain ⟨M, hM⟩ : ∃ M : Int, M = cw * ch := ⟨_, rfl⟩
  have HM : Hid (M = cw * ch) := hM
  rw [← hM] at hm ⊢
  obtain ⟨m1, m2⟩ := hm
  clear hM
  go_enter Tryz.func80, Tryz.ntmps80
  go_wp2_with fail
  go_at_call 107
  refine (K _).mono ?_
  rintro e v1 ⟨rfl, hb⟩
  have A1 := A0.out.trans hb
  clear hb K
  obtain ⟨x0, x1, -, -, -, -, -, -, -⟩ := A1.cells
  have HA1 : Hid (At w _ v1) := A1
  clear A1
  go_wp2
  go_ret
  exact ⟨ret_int (by rw [← HM.out]; exact IntWalk.wrap64_in _ (by omega)), HA1.out.below⟩
 all_goals
  have h0 : ¬ chk c = 0 := by rw [h]; decide
  rw [if_neg h0]
  rw [h] at K
  clear F h h0
  obtain ⟨cw, ch, cl, cd, cr, ci, cb, we, ca⟩ := c
  simp only [cfv, cfc] at *
  go_enter Tryz.func80, Tryz.ntmps80
  go_wp2_with fail
  go_at_call 107
  refine (K _).mono ?_
  rintro e v1 ⟨rfl, hb⟩
  have HA1 : Hid (At w _ v1) := A0.out.trans hb
  clear hb K
  go_wp2
  go_ret
  exact ⟨rfl, HA1.out.below⟩
theorem At.drewN {w v : World} {c : Cf} (h : At w c v) (n : Nat) : At w c (v.drewN n) := Below.drewN h n
theorem At.drew {w v : World} {c : Cf} (h : At w c v) : At w c v.drew := Below.drewN h 1
theorem is_any (c : Cf) (n : Int) (w : World) : Calls Tryz.prog 39 #[cfv c, .int .i64 n] w fun e w' => e = .returned (.bool (isN c n)) ∧ Below w.heap.size w w' := by
 have K := nodes_any c
 have I := isBelow_any n (nod c)
 have A0 : Hid (At w c (w.alloc (.cells (cfc c) 23))) := At.start w c
 unfold isN
 generalize nod c = M at *
 generalize (decide (0 ≤ n) && decide (n < M)) = t at *
 obtain ⟨cw, ch, cl, cd, cr, ci, cb, we, ca⟩ := c
 simp only [cfv, cfc] at *
 go_enter Tryz.func39, Tryz.ntmps39
 go_wp2_with fail
 go_at_call 80
 refine (K _).mono ?_
 rintro e v1 ⟨rfl, hb⟩
 have HA1 : Hid (At w _ v1) := A0.out.trans hb
 clear hb K
 go_wp2_with fail
 go_at_call 79
 refine (I _).mono ?_
 rintro e v2 ⟨rfl, rfl⟩
 go_wp2
 go_ret
 exact ⟨rfl, HA1.out.below⟩
theorem place_any (c : Cf) (n : Int) (w : World) : Calls Tryz.prog 138 #[cfv c, .int .i64 n] w fun e w' => e = .returned (.tuple #[.int .i64 (plx c n), .int .i64 (ply c n), .int .i64 (ple c n)]) ∧ Below w.heap.size w w' := by
 have K := is_any c n
 have A0 : Hid (At w c (w.alloc (.cells (cfc c) 23))) := At.start w c
 cases h : isN c n with
 | true =>
  obtain ⟨hc, h0, h1⟩ := isN_ok h
  have f := fits_of hc
  have ex : (n.tmod c.w) = plx c n := by rw [Int.tmod_eq_emod_of_nonneg h0]; unfold plx; rw [if_pos h]
  have ey : (n.tdiv c.w) = ply c n := by rw [Int.tdiv_eq_ediv_of_nonneg h0]; unfold ply; rw [if_pos h]
  have ee : ple c n = 0 := by unfold ple; rw [if_pos h]
  have px := plx_in c n
  have py := ply_in c n
  have w1 := f.w1
  have w2 := f.w2
  have hn := (isN_lt h).2
  rw [ee]
  rw [h] at K
  generalize plx c n = X at *
  generalize ply c n = Y at *
  clear ee hc h1 f h
  obtain ⟨cw, ch, cl, cd, cr, ci, cb, we, ca⟩ := c
  simp only [cfv, cfc] at *
  go_enter Tryz.func138, Tryz.ntmps138
  go_wp2_with fail
  go_at_call 39
  refine (K _).mono ?_
  rintro e v1 ⟨rfl, hb⟩
  have A1 := A0.out.trans hb
  clear hb K
  obtain ⟨x0, -, -, -, -, -, -, -, -⟩ := A1.cells
  have HA1 : Hid (At w _ v1) := A1
  have BB : Hid (∀ n, Below w.heap.size w (v1.drewN n)) := fun n => (A1.drewN n).below
  clear A1
  simp only at x0
  go_wp2_with fail
  go_quiet (fail)
  go_wp2
  go_ret3
  exact ⟨rfl, by first | exact BB.out _ | exact BB.out 1 | exact HA1.out.below⟩
 | false =>
  have ex : plx c n = 0 := by unfold plx; rw [h]; rfl
  have ey : ply c n = 0 := by unfold ply; rw [h]; rfl
  have ee : ple c n = 5 := by unfold ple; rw [h]; rfl
  rw [ex, ey, ee]
  rw [h] at K
  clear ex ey ee h
  obtain ⟨cw, ch, cl, cd, cr, ci, cb, we, ca⟩ := c
  simp only [cfv, cfc] at *
  go_enter Tryz.func138, Tryz.ntmps138
  go_wp2_with fail
  go_at_call 39
  refine (K _).mono ?_
  rintro e v1 ⟨rfl, hb⟩
  have HA1 : Hid (At w _ v1) := A0.out.trans hb
  clear hb K
  go_wp2
  go_ret3
  exact ⟨rfl, HA1.out.below⟩
theorem at_any (c : Cf) (x y : Int) (w : World) : Calls Tryz.prog 139 #[cfv c, .int .i64 x, .int .i64 y] w fun e w' => e = .returned (.tuple #[.int .i64 (atn c x y), .int .i64 (ate c x y)]) ∧ Below w.heap.size w w' := by
 have K := check_any c
 have I := isBelow_any x c.w
 have J := isBelow_any y c.h
 have A0 : Hid (At w c (w.alloc (.cells (cfc c) 23))) := At.start w c
 cases h : inP c x y with
 | true =>
  obtain ⟨hc, h1, h2, h3, h4⟩ := inP_ok h
  obtain ⟨g1, g2, g3, g4⟩ := node_in h
  have f := fits_of hc
  have ea : atn c x y = y * c.w + x := by unfold atn; rw [if_pos h]
  have ee : ate c x y = 0 := by unfold ate; rw [if_pos h]
  rw [ea, ee]
  rw [hc] at K
  rw [show (decide (0 ≤ x) && decide (x < c.w)) = true by simp [h1, h2]] at I
  rw [show (decide (0 ≤ y) && decide (y < c.h)) = true by simp [h3, h4]] at J
  have hx : x ≤ 63 := by have := f.w2; omega
  have hy : y ≤ 63 := by have := f.h2; omega
  clear ea ee hc f h h2 h4 g2 g4
  obtain ⟨cw, ch, cl, cd, cr, ci, cb, we, ca⟩ := c
  simp only [cfv, cfc] at *
  obtain ⟨M, hM⟩ : ∃ M : Int, y * cw = M := ⟨_, rfl⟩
  rw [hM] at g1 g3 ⊢
  have HM : Hid (y * cw = M) := hM
  clear hM
  go_enter Tryz.func139, Tryz.ntmps139
  go_wp2_with fail
  go_at_call 107
  refine (K _).mono ?_
  rintro e v1 ⟨rfl, hb⟩
  have A1 := A0.out.trans hb
  clear hb K
  obtain ⟨x0, x1, -, -, -, -, -, -, -⟩ := A1.cells
  have HA1 : Hid (At w _ v1) := A1
  clear A1
  simp only at x0 x1
  go_wp2_with fail
  go_at_call 79
  refine (I _).mono ?_
  rintro e v2 ⟨rfl, rfl⟩
  go_wp2_with fail
  go_at_call 79
  refine (J _).mono ?_
  rintro e v2 ⟨rfl, rfl⟩
  clear I J
  have hM := HM.out
  go_wp2
  go_ret2
  exact ⟨rfl, HA1.out.below⟩
 | false =>
  have ea : atn c x y = 0 := by unfold atn; rw [h]; rfl
  have ee : ate c x y = 5 := by unfold ate; rw [h]; rfl
  rw [ea, ee]
  clear ea ee
  unfold inP at h
  have h' : chk c = 0 → (decide (0 ≤ x) && decide (x < c.w)) = true → (decide (0 ≤ y) && decide (y < c.h)) = false := fun hc hx => by
   rw [hx] at h
   simpa [hc] using h
  clear h
  rcases chk_cases c with hc | hc | hc
  ·have h' := h' hc
   rw [hc] at K
   clear hc
   obtain ⟨cw, ch, cl, cd, cr, ci, cb, we, ca⟩ := c
   simp only [cfv, cfc] at *
   generalize (decide (0 ≤ x) && decide (x < cw)) = s at *
   generalize (decide (0 ≤ y) && decide (y < ch)) = t at *
   cases s with
   | true =>
    obtain rfl := h' rfl
    clear h'
    go_enter Tryz.func139, Tryz.ntmps139
    go_wp2_with fail
    go_at_call 107
    refine (K _).mono ?_
    rintro e v1 ⟨rfl, hb⟩
    have A1 := A0.out.trans hb
    clear hb K
    obtain ⟨x0, x1, -, -, -, -, -, -, -⟩ := A1.cells
    have HA1 : Hid (At w _ v1) := A1
    clear A1
    simp only at x0 x1
    go_wp2_with fail
    go_at_call 79
    refine (I _).mono ?_
    rintro e v2 ⟨rfl, rfl⟩
    go_wp2_with fail
    go_at_call 79
    refine (J _).mono ?_
    rintro e v2 ⟨rfl, rfl⟩
    clear I J
    go_wp2
    go_ret2
    exact ⟨rfl, HA1.out.below⟩
   | false =>
    clear h' J
    go_enter Tryz.func139, Tryz.ntmps139
    go_wp2_with fail
    go_at_call 107
    refine (K _).mono ?_
    rintro e v1 ⟨rfl, hb⟩
    have A1 := A0.out.trans hb
    clear hb K
    obtain ⟨x0, x1, -, -, -, -, -, -, -⟩ := A1.cells
    have HA1 : Hid (At w _ v1) := A1
    clear A1
    simp only at x0 x1
    go_wp2_with fail
    go_at_call 79
    refine (I _).mono ?_
    rintro e v2 ⟨rfl, rfl⟩
    clear I
    go_wp2
    go_ret2
    exact ⟨rfl, HA1.out.below⟩
  all_goals
   rw [hc] at K
   clear h' hc I J
   obtain ⟨cw, ch, cl, cd, cr, ci, cb, we, ca⟩ := c
   simp only [cfv, cfc] at *
   go_enter Tryz.func139, Tryz.ntmps139
   go_wp2_with fail
   go_at_call 107
   refine (K _).mono ?_
   rintro e v1 ⟨rfl, hb⟩
   have HA1 : Hid (At w _ v1) := A0.out.trans hb
   clear hb K
   go_wp2
   go_ret2
   exact ⟨rfl, HA1.out.below⟩
theorem turned_any (c : Cf) (n : Int) (w : World) : Calls Tryz.prog 137 #[cfv c, .int .i64 n] w fun e w' => e = .returned (.tuple #[.int .i64 (lb c n), .int .i64 (ple c n)]) ∧ Below w.heap.size w w' := by
 have K := place_any c n
 have A0 : Hid (At w c (w.alloc (.cells (cfc c) 23))) := At.start w c
 cases h : isN c n with
 | true =>
  have T := at_any c (tx c n) (ply c n)
  obtain ⟨l1, l2⟩ := lb_at h
  have ep : ple c n = 0 := by unfold ple; rw [h]; rfl
  rw [l2] at T
  rw [← l1] at T
  rw [ep] at K ⊢
  clear ep l1 l2
  obtain ⟨_, g1, g2, g3, g4, _⟩ := place_of h
  have hy := (ply_in c n).2
  have hw := (fits_of (place_of h).1).w2
  clear g4 h
  unfold tx at T
  generalize lb c n = R at *
  generalize plx c n = X at *
  generalize ply c n = Y at *
  have hm : Y.tmod 2 = Y % 2 := Int.tmod_eq_emod_of_nonneg g3
  by_cases ho : Y % 2 = 1
  ·rw [if_pos ho] at T
   rw [ho] at hm
   obtain ⟨cw, ch, cl, cd, cr, ci, cb, we, ca⟩ := c
   simp only [cfv, cfc] at *
   clear ho
   go_enter Tryz.func137, Tryz.ntmps137
   go_wp2_with fail
   go_at_call 138
   refine (K _).mono ?_
   rintro e v1 ⟨rfl, hb⟩
   have A1 := A0.out.trans hb
   clear hb K
   obtain ⟨x0, x1, x2, x3, x4, x5, x6, x7, x8⟩ := A1.cells
   have HA1 : Hid (At w _ v1) := A1
   clear A1
   simp only at x0 x1 x2 x3 x4 x5 x6 x7 x8
   go_wp2_with fail
   go_at_call 139
   refine (T _).mono ?_
   rintro e v2 ⟨rfl, hb⟩
   have HA2 : Hid (At w _ v2) := HA1.out.trans hb
   clear hb T
   go_wp2
   go_ret2
   exact ⟨rfl, HA2.out.below⟩
  ·rw [if_neg ho] at T
   have h0 : Y.tmod 2 = 0 := by omega
   obtain ⟨cw, ch, cl, cd, cr, ci, cb, we, ca⟩ := c
   simp only [cfv, cfc] at *
   clear ho hm
   go_enter Tryz.func137, Tryz.ntmps137
   go_wp2_with fail
   go_at_call 138
   refine (K _).mono ?_
   rintro e v1 ⟨rfl, hb⟩
   have A1 := A0.out.trans hb
   clear hb K
   obtain ⟨x0, x1, x2, x3, x4, x5, x6, x7, x8⟩ := A1.cells
   have HA1 : Hid (At w _ v1) := A1
   clear A1
   simp only at x0 x1 x2 x3 x4 x5 x6 x7 x8
   go_wp2_with fail
   go_at_call 139
   refine (T _).mono ?_
   rintro e v2 ⟨rfl, hb⟩
   have HA2 : Hid (At w _ v2) := HA1.out.trans hb
   clear hb T
   go_wp2
   go_ret2
   exact ⟨rfl, HA2.out.below⟩
 | false =>
  have ex : plx c n = 0 := by unfold plx; rw [h]; rfl
  have ey : ply c n = 0 := by unfold ply; rw [h]; rfl
  have ee : ple c n = 5 := by unfold ple; rw [h]; rfl
  rw [ex, ey, ee] at K
  rw [ee, lb_no h]
  clear ex ey ee h
  obtain ⟨cw, ch, cl, cd, cr, ci, cb, we, ca⟩ := c
  simp only [cfv, cfc] at *
  go_enter Tryz.func137, Tryz.ntmps137
  go_wp2_with fail
  go_at_call 138
  refine (K _).mono ?_
  rintro e v1 ⟨rfl, hb⟩
  have HA1 : Hid (At w _ v1) := A0.out.trans hb
  clear hb K
  go_wp2
  go_ret2
  exact ⟨rfl, HA1.out.below⟩
theorem label_any (c : Cf) (n : Int) (w : World) : Calls Tryz.prog 120 #[cfv c, .int .i64 n] w fun e w' => e = .returned (.tuple #[.int .i64 (lb c n), .int .i64 (ple c n)]) ∧ Below w.heap.size w w' := by
 have K := turned_any c n
 have A0 : Hid (At w c (w.alloc (.cells (cfc c) 23))) := At.start w c
 generalize lb c n = R at *
 generalize ple c n = E at *
 obtain ⟨cw, ch, cl, cd, cr, ci, cb, we, ca⟩ := c
 simp only [cfv, cfc] at *
 go_enter Tryz.func120, Tryz.ntmps120
 go_wp2_with fail
 go_at_call 137
 refine (K _).mono ?_
 rintro e v1 ⟨rfl, hb⟩
 have HA1 : Hid (At w _ v1) := A0.out.trans hb
 clear hb K
 go_wp2
 go_ret2
 exact ⟨rfl, HA1.out.below⟩
end Go.Proofs.YtmmegmonmilkcaaGreatDoor.G.Gr
namespace Go.Proofs.YtmmegmonmilkcaaGreatDoor.G
open Go.RowKit
theorem label_any (c : Cf) (n : Int) (w : World) : Calls Tryz.prog 120 #[cfv c, .int .i64 n] w fun e w' => e = .returned (.tuple #[.int .i64 (lb c n), .int .i64 (ple c n)]) ∧ Below w.heap.size w w' :=
 (Gr.label_any c n w).mono fun _ _ h => ⟨h.1, h.2.plain⟩
end Go.Proofs.YtmmegmonmilkcaaGreatDoor.G
namespace Go.Proofs.YtmmegmonmilkcaaGreatDoor.G
open Go.RowKit
def Steps (w : World) : Prop := 2 ≤ w.heap.size ∧
 w.cell? ⟨0, 0, none⟩ = some (.int .i64 0) ∧ w.cell? ⟨0, 1, none⟩ = some (.int .i64 0) ∧ w.cell? ⟨0, 2, none⟩ = some (.int .i64 1) ∧ w.cell? ⟨0, 3, none⟩ = some (.int .i64 0) ∧
 w.cell? ⟨0, 4, none⟩ = some (.int .i64 (-1)) ∧ w.cell? ⟨0, 5, none⟩ = some (.int .i64 0) ∧ w.cell? ⟨0, 6, none⟩ = some (.int .i64 0) ∧ w.cell? ⟨0, 7, none⟩ = some (.int .i64 1) ∧
 w.cell? ⟨0, 8, none⟩ = some (.int .i64 0) ∧ w.cell? ⟨0, 9, none⟩ = some (.int .i64 (-1))
theorem Steps.below {w w' : World} {B : Nat} (h : Steps w) (hb : Below B w w') (hB : 2 ≤ B) : Steps w' := by
 have k : ∀ j, w'.cell? ⟨0, j, none⟩ = w.cell? ⟨0, j, none⟩ := fun j => hb.cell (p := ⟨0, j, none⟩) (by show 0 < B; omega)
 unfold Steps at h ⊢
 simp only [k]
 exact ⟨Nat.le_trans h.1 hb.size, h.2⟩
theorem Steps.next {w w' : World} (h : Steps w) (hb : Below w.heap.size w w') : Steps w' := h.below hb h.1
theorem At.steps {w v : World} {c : Cf} (h : At w c v) (hS : Steps w) : Steps v := hS.next h.below
theorem bs_no {c : Cf} {n p : Int} (h : isN c n = false) : bsB c n p = false ∧ bsN c n p = 0 := by
 have e : bsB c n p = false := by unfold bsB; rw [h]; rfl
 exact ⟨e, by unfold bsN; rw [e]; rfl⟩
theorem bs_nop {c : Cf} {n p : Int} (h : isP p = false) : bsB c n p = false ∧ bsN c n p = 0 := by
 have e : bsB c n p = false := by unfold bsB; rw [h]; simp
 exact ⟨e, by unfold bsN; rw [e]; rfl⟩
theorem bs_yes {c : Cf} {n p : Int} (h : isN c n = true) (hp : isP p = true) : bsN c n p = atn c (plx c n + dx p) (ply c n + dy p) ∧ bsB c n p = (ate c (plx c n + dx p) (ply c n + dy p) == 0) := by
 have e : bsB c n p = inP c (plx c n + dx p) (ply c n + dy p) := by unfold bsB; rw [h, hp]; simp
 refine ⟨by unfold bsN atn; rw [e], ?_⟩
 rw [e]
 unfold ate
 cases inP c (plx c n + dx p) (ply c n + dy p) <;> rfl
theorem pl_no {c : Cf} {n : Int} (h : isN c n = false) : plx c n = 0 ∧ ply c n = 0 ∧ ple c n = 5 := by
 unfold plx ply ple
 rw [h]
 exact ⟨rfl, rfl, rfl⟩
theorem pl_yes {c : Cf} {n : Int} (h : isN c n = true) : ple c n = 0 := by unfold ple; rw [h]; rfl
set_option maxHeartbeats 1000000 in
theorem beside_any (c : Cf) (n p : Int) (w : World) (hS : Steps w) : Calls Tryz.prog 121 #[cfv c, .int .i64 n, .int .i64 p] w fun e w' => e = .returned (.tuple #[.int .i64 (bsN c n p), .bool (bsB c n p)]) ∧ Below w.heap.size w w' := by
 have K := place_any c n
 have I := isBelow_any p 5
 change ∀ w, Calls _ _ _ _ (fun e w' => e = .returned (.bool (isP p)) ∧ _) at I
 have A0 : Hid (At w c (w.alloc (.cells (cfc c) 23))) := At.start w c
 have HS : Hid (Steps w) := hS
 clear hS
 cases h : isN c n with
 | false =>
  rw [(bs_no (p := p) h).1, (bs_no (p := p) h).2]
  rw [(pl_no h).1, (pl_no h).2.1, (pl_no h).2.2] at K
  clear I h HS
  obtain ⟨cw, ch, cl, cd, cr, ci, cb, we, ca⟩ := c
  simp only [cfv, cfc] at *
  go_enter Tryz.func121, Tryz.ntmps121
  go_wp2_with fail
  go_at_call 138
  refine (K _).mono ?_
  rintro e v1 ⟨rfl, hb⟩
  have HA1 : Hid (At w _ v1) := A0.out.trans hb
  clear hb K
  go_wp2
  go_ret2
  exact ⟨rfl, HA1.out.below⟩
 | true =>
  have px := plx_in c n
  have py := ply_in c n
  cases hp : isP p with
  | false =>
   rw [(bs_nop (c := c) (n := n) hp).1, (bs_nop (c := c) (n := n) hp).2]
   rw [pl_yes h] at K
   rw [hp] at I
   clear hp h HS
   generalize plx c n = X at *
   generalize ply c n = Y at *
   obtain ⟨cw, ch, cl, cd, cr, ci, cb, we, ca⟩ := c
   simp only [cfv, cfc] at *
   go_enter Tryz.func121, Tryz.ntmps121
   go_wp2_with fail
   go_at_call 138
   refine (K _).mono ?_
   rintro e v1 ⟨rfl, hb⟩
   have HA1 : Hid (At w _ v1) := A0.out.trans hb
   clear hb K
   go_wp2_with fail
   go_at_call 79
   refine (I _).mono ?_
   rintro e v2 ⟨rfl, rfl⟩
   go_wp2
   go_ret2
   exact ⟨rfl, HA1.out.below⟩
  | true =>
   have T := at_any c (plx c n + dx p) (ply c n + dy p)
   rw [(bs_yes h hp).1, (bs_yes h hp).2]
   rw [pl_yes h] at K
   rw [hp] at I
   have hp' := (isP_iff p).1 hp
   generalize atn c (plx c n + dx p) (ply c n + dy p) = R at *
   generalize ate c (plx c n + dx p) (ply c n + dy p) = E at *
   clear hp h
   generalize plx c n = X at *
   generalize ply c n = Y at *
   rcases hp' with rfl | rfl | rfl | rfl | rfl
   ·rw [show dx 0 = 0 from rfl, show dy 0 = 0 from rfl, Int.add_zero, Int.add_zero] at T
    obtain ⟨cw, ch, cl, cd, cr, ci, cb, we, ca⟩ := c
    simp only [cfv, cfc] at *
    go_enter Tryz.func121, Tryz.ntmps121
    go_wp2_with fail
    go_at_call 138
    refine (K _).mono ?_
    rintro e v1 ⟨rfl, hb⟩
    have HA1 : Hid (At w _ v1) := A0.out.trans hb
    clear hb K
    obtain ⟨z, s0, s1, s2, s3, s4, s5, s6, s7, s8, s9⟩ := HA1.out.steps HS.out
    go_wp2_with fail
    go_at_call 79
    refine (I _).mono ?_
    rintro e v2 ⟨rfl, rfl⟩
    clear I
    obtain ⟨x0, x1, x2, x3, x4, x5, x6, x7, x8⟩ := HA1.out.cells
    have hz : w.heap.size < v1.heap.size := by have := HA1.out.size; omega
    simp only at x0 x1 x2 x3 x4 x5 x6 x7 x8
    go_wp2_with fail
    go_at_call 139
    refine (T _).mono ?_
    rintro e v3 ⟨rfl, hb⟩
    have HB : Hid (Below w.heap.size w v3) := ((HA1.out.alloc _).trans hb).below
    clear hb
    go_wp2
    go_ret2
    exact ⟨rfl, HB.out⟩
   ·rw [show dx 1 = 1 from rfl, show dy 1 = 0 from rfl, Int.add_zero] at T
    obtain ⟨cw, ch, cl, cd, cr, ci, cb, we, ca⟩ := c
    simp only [cfv, cfc] at *
    go_enter Tryz.func121, Tryz.ntmps121
    go_wp2_with fail
    go_at_call 138
    refine (K _).mono ?_
    rintro e v1 ⟨rfl, hb⟩
    have HA1 : Hid (At w _ v1) := A0.out.trans hb
    clear hb K
    obtain ⟨z, s0, s1, s2, s3, s4, s5, s6, s7, s8, s9⟩ := HA1.out.steps HS.out
    go_wp2_with fail
    go_at_call 79
    refine (I _).mono ?_
    rintro e v2 ⟨rfl, rfl⟩
    clear I
    obtain ⟨x0, x1, x2, x3, x4, x5, x6, x7, x8⟩ := HA1.out.cells
    have hz : w.heap.size < v1.heap.size := by have := HA1.out.size; omega
    simp only at x0 x1 x2 x3 x4 x5 x6 x7 x8
    go_wp2_with fail
    go_at_call 139
    refine (T _).mono ?_
    rintro e v3 ⟨rfl, hb⟩
    have HB : Hid (Below w.heap.size w v3) := ((HA1.out.alloc _).trans hb).below
    clear hb
    go_wp2
    go_ret2
    exact ⟨rfl, HB.out⟩
   ·rw [show dx 2 = -1 from rfl, show dy 2 = 0 from rfl, Int.add_zero] at T
    obtain ⟨cw, ch, cl, cd, cr, ci, cb, we, ca⟩ := c
    simp only [cfv, cfc] at *
    go_enter Tryz.func121, Tryz.ntmps121
    go_wp2_with fail
    go_at_call 138
    refine (K _).mono ?_
    rintro e v1 ⟨rfl, hb⟩
    have HA1 : Hid (At w _ v1) := A0.out.trans hb
    clear hb K
    obtain ⟨z, s0, s1, s2, s3, s4, s5, s6, s7, s8, s9⟩ := HA1.out.steps HS.out
    go_wp2_with fail
    go_at_call 79
    refine (I _).mono ?_
    rintro e v2 ⟨rfl, rfl⟩
    clear I
    obtain ⟨x0, x1, x2, x3, x4, x5, x6, x7, x8⟩ := HA1.out.cells
    have hz : w.heap.size < v1.heap.size := by have := HA1.out.size; omega
    simp only at x0 x1 x2 x3 x4 x5 x6 x7 x8
    go_wp2_with fail
    go_at_call 139
    refine (T _).mono ?_
    rintro e v3 ⟨rfl, hb⟩
    have HB : Hid (Below w.heap.size w v3) := ((HA1.out.alloc _).trans hb).below
    clear hb
    go_wp2
    go_ret2
    exact ⟨rfl, HB.out⟩
   ·rw [show dx 3 = 0 from rfl, show dy 3 = 1 from rfl, Int.add_zero] at T
    obtain ⟨cw, ch, cl, cd, cr, ci, cb, we, ca⟩ := c
    simp only [cfv, cfc] at *
    go_enter Tryz.func121, Tryz.ntmps121
    go_wp2_with fail
    go_at_call 138
    refine (K _).mono ?_
    rintro e v1 ⟨rfl, hb⟩
    have HA1 : Hid (At w _ v1) := A0.out.trans hb
    clear hb K
    obtain ⟨z, s0, s1, s2, s3, s4, s5, s6, s7, s8, s9⟩ := HA1.out.steps HS.out
    go_wp2_with fail
    go_at_call 79
    refine (I _).mono ?_
    rintro e v2 ⟨rfl, rfl⟩
    clear I
    obtain ⟨x0, x1, x2, x3, x4, x5, x6, x7, x8⟩ := HA1.out.cells
    have hz : w.heap.size < v1.heap.size := by have := HA1.out.size; omega
    simp only at x0 x1 x2 x3 x4 x5 x6 x7 x8
    go_wp2_with fail
    go_at_call 139
    refine (T _).mono ?_
    rintro e v3 ⟨rfl, hb⟩
    have HB : Hid (Below w.heap.size w v3) := ((HA1.out.alloc _).trans hb).below
    clear hb
    go_wp2
    go_ret2
    exact ⟨rfl, HB.out⟩
   ·rw [show dx 4 = 0 from rfl, show dy 4 = -1 from rfl, Int.add_zero] at T
    obtain ⟨cw, ch, cl, cd, cr, ci, cb, we, ca⟩ := c
    simp only [cfv, cfc] at *
    go_enter Tryz.func121, Tryz.ntmps121
    go_wp2_with fail
    go_at_call 138
    refine (K _).mono ?_
    rintro e v1 ⟨rfl, hb⟩
    have HA1 : Hid (At w _ v1) := A0.out.trans hb
    clear hb K
    obtain ⟨z, s0, s1, s2, s3, s4, s5, s6, s7, s8, s9⟩ := HA1.out.steps HS.out
    go_wp2_with fail
    go_at_call 79
    refine (I _).mono ?_
    rintro e v2 ⟨rfl, rfl⟩
    clear I
    obtain ⟨x0, x1, x2, x3, x4, x5, x6, x7, x8⟩ := HA1.out.cells
    have hz : w.heap.size < v1.heap.size := by have := HA1.out.size; omega
    simp only at x0 x1 x2 x3 x4 x5 x6 x7 x8
    go_wp2_with fail
    go_at_call 139
    refine (T _).mono ?_
    rintro e v3 ⟨rfl, hb⟩
    have HB : Hid (Below w.heap.size w v3) := ((HA1.out.alloc _).trans hb).below
    clear hb
    go_wp2
    go_ret2
    exact ⟨rfl, HB.out⟩
end Go.Proofs.YtmmegmonmilkcaaGreatDoor.G
namespace Go.Proofs.YtmmegmonmilkcaaGreatDoor.G
open Go.RowKit
theorem stB_not {c : Cf} {a t : Int} (h : (isN c a && isN c t) = false) : stp c a t = 0 ∧ stB c a t = false := by
 unfold stp stB
 rw [h]
 exact ⟨rfl, rfl⟩
theorem stK_yes {c : Cf} {a g : Int} {k : Nat} (h : nea c a g (stK c a g k).2 (k : Int) = true) : (stK c a g (k + 1)).1 = k ∧ (stK c a g (k + 1)).2 = lb c (bsN c a (k : Int)) := by
 simp only [stK]
 rw [if_pos h]
 exact ⟨rfl, rfl⟩
theorem stK_no {c : Cf} {a g : Int} {k : Nat} (h : nea c a g (stK c a g k).2 (k : Int) = false) : (stK c a g (k + 1)).1 = (stK c a g k).1 ∧ (stK c a g (k + 1)).2 = (stK c a g k).2 := by
 simp only [stK]
 rw [if_neg (by rw [h]; decide)]
 exact ⟨rfl, rfl⟩
set_option maxRecDepth 100000 in
set_option maxHeartbeats 1000000 in
theorem step_any (c : Cf) (a t : Int) (w : World) (hS : Steps w) : Calls Tryz.prog 94 #[cfv c, .int .i64 a, .int .i64 t] w fun e w' => e = .returned (.tuple #[.int .i64 (stp c a t), .bool (stB c a t)]) ∧ Below w.heap.size w w' := by
 have A0 : Hid (At w c (w.alloc (.cells (cfc c) 23))) := At.start w c
 have K1 := label_any c a
 have K2 := label_any c t
 have HS : Hid (Steps w) := hS
 clear hS
 cases ha : isN c a with
 | false =>
  obtain ⟨e1, e2⟩ := stB_not (c := c) (a := a) (t := t) (by rw [ha]; rfl)
  rw [e1, e2]
  rw [(pl_no ha).2.2] at K1
  clear e1 e2 ha
  generalize lb c a = la at *
  generalize lb c t = lt at *
  generalize ple c t = pt at *
  obtain ⟨cw, ch, cl, cd, cr, ci, cb, we, ca⟩ := c
  simp only [cfv, cfc] at *
  go_enter Tryz.func94, Tryz.ntmps94
  go_wp2_with fail
  go_at_call 120
  refine (K1 _).mono ?_
  rintro e v1 ⟨rfl, hb⟩
  have HA1 : Hid (At w _ v1) := A0.out.trans hb
  clear hb K1 A0
  obtain ⟨x0, x1, x2, x3, x4, x5, x6, x7, x8⟩ := HA1.out.cells
  simp only at x0 x1 x2 x3 x4 x5 x6 x7 x8
  go_wp2_with fail
  go_at_call 120
  refine (K2 _).mono ?_
  rintro e v2 ⟨rfl, hb⟩
  have HA2 : Hid (At w _ v2) := HA1.out.trans hb
  clear hb K2 HA1 x0 x1 x2 x3 x4 x5 x6 x7 x8
  go_wp2
  go_ret2
  exact ⟨rfl, HA2.out.below⟩
 | true =>
  rw [pl_yes ha] at K1
  cases ht : isN c t with
  | false =>
   obtain ⟨e1, e2⟩ := stB_not (c := c) (a := a) (t := t) (by rw [ha, ht]; rfl)
   rw [e1, e2]
   rw [(pl_no ht).2.2] at K2
   clear e1 e2 ha ht
   generalize lb c a = la at *
   generalize lb c t = lt at *
   obtain ⟨cw, ch, cl, cd, cr, ci, cb, we, ca⟩ := c
   simp only [cfv, cfc] at *
   go_enter Tryz.func94, Tryz.ntmps94
   go_wp2_with fail
   go_at_call 120
   refine (K1 _).mono ?_
   rintro e v1 ⟨rfl, hb⟩
   have HA1 : Hid (At w _ v1) := A0.out.trans hb
   clear hb K1 A0
   obtain ⟨x0, x1, x2, x3, x4, x5, x6, x7, x8⟩ := HA1.out.cells
   simp only at x0 x1 x2 x3 x4 x5 x6 x7 x8
   go_wp2_with fail
   go_at_call 120
   refine (K2 _).mono ?_
   rintro e v2 ⟨rfl, hb⟩
   have HA2 : Hid (At w _ v2) := HA1.out.trans hb
   clear hb K2 HA1 x0 x1 x2 x3 x4 x5 x6 x7 x8
   go_wp2
   go_ret2
   exact ⟨rfl, HA2.out.below⟩
  | true =>
   rw [pl_yes ht] at K2
   have e1 : stp c a t = (stK c a (lb c t) 5).1 := by unfold stp; rw [ha, ht]; rfl
   have e2 : stB c a t = true := by unfold stB; rw [ha, ht]; rfl
   rw [e1, e2]
   have S0 : (stK c a (lb c t) 0).1 = 0 ∧ (stK c a (lb c t) 0).2 = lb c a := ⟨rfl, rfl⟩
   have SY := fun k => @stK_yes c a (lb c t) k
   have SN := fun k => @stK_no c a (lb c t) k
   have NI := fun m p => @nea_iff c a (lb c t) m p
   have BE := fun (k : Nat) v h => beside_any c a (k : Int) v h
   have LA := fun n => label_any c n
   have PB := fun p h => (@step_ok c a p h).2.2.2.1
   have LR := fun p => lb_in c (bsN c a p)
   have SR := fun k => stK_in c a (lb c t) k
   have PL := fun p h => pl_yes (PB p h)
   have GR := lb_in c t
   clear e1 e2 ha ht PB
   generalize lb c t = g at *
   obtain ⟨SS, hSS⟩ : ∃ SS : Nat → Int, ∀ k, (stK c a g k).1 = SS k := ⟨fun k => (stK c a g k).1, fun _ => rfl⟩
   obtain ⟨SM, hSM⟩ : ∃ SM : Nat → Int, ∀ k, (stK c a g k).2 = SM k := ⟨fun k => (stK c a g k).2, fun _ => rfl⟩
   simp only [hSS, hSM] at *
   clear hSS hSM
   generalize nea c a g = NE at *
   generalize bsN c a = M at *
   generalize bsB c a = G at *
   generalize lb c = LB at *
   generalize ple c = PE at *
   have HSY : Hid (∀ k : Nat, NE (SM k) (k : Int) = true → SS (k + 1) = k ∧ SM (k + 1) = LB (M (k : Int))) := SY
   have HSN : Hid (∀ k : Nat, NE (SM k) (k : Int) = false → SS (k + 1) = SS k ∧ SM (k + 1) = SM k) := SN
   have HNI : Hid (∀ m p : Int, NE m p = true ↔ G p = true ∧ ((m < LB (M p) ∧ LB (M p) ≤ g) ∨ (g ≤ LB (M p) ∧ LB (M p) < m))) := NI
   have HLR : Hid (∀ p : Int, 0 ≤ LB (M p) ∧ LB (M p) < 4096) := LR
   have HSR : Hid (∀ k : Nat, 0 ≤ SS k ∧ SS k ≤ k ∧ 0 ≤ SM k ∧ SM k < 4096) := SR
   have HPL : Hid (∀ p : Int, G p = true → PE (M p) = 0) := PL
   have HS0 : Hid (SS 0 = 0 ∧ SM 0 = LB a) := S0
   clear SY SN NI LR SR PL S0
   obtain ⟨cw, ch, cl, cd, cr, ci, cb, we, ca⟩ := c
   simp only [cfv, cfc] at *
   go_enter Tryz.func94, Tryz.ntmps94
   go_wp2_with fail
   go_at_call 120
   refine (K1 _).mono ?_
   rintro e v1 ⟨rfl, hb⟩
   have HA1 : Hid (At w _ v1) := A0.out.trans hb
   clear hb K1 A0
   obtain ⟨x0, x1, x2, x3, x4, x5, x6, x7, x8⟩ := HA1.out.cells
   simp only at x0 x1 x2 x3 x4 x5 x6 x7 x8
   go_wp2_with fail
   go_at_call 120
   refine (K2 _).mono ?_
   rintro e v2 ⟨rfl, hb⟩
   have HA2 : Hid (At w _ v2) := HA1.out.trans hb
   clear hb K2 HA1 x0 x1 x2 x3 x4 x5 x6 x7 x8
   generalize LB a = la0 at *
   go_wp2_with fail
   go_loopw [8, 12, 36] (fun s8 s12 s36 wr => ∃ k : Nat, k ≤ 5 ∧ s36 = .int .i64 k ∧ s8 = .int .i64 (SM k) ∧ s12 = .int .i64 (SS k) ∧ At w ⟨cw, ch, cl, cd, cr, ci, cb, we, ca⟩ wr) (fun _ _ i _ => 5 - (RowKit.intOf i).toNat)
   case atStart => exact ⟨0, by omega, rfl, by rw [HS0.out.2], by rw [HS0.out.1], HA2.out⟩
   case round =>
    obtain ⟨k, hk, rfl, rfl, rfl, hat⟩ := hrel
    have HAT : Hid (At w ⟨cw, ch, cl, cd, cr, ci, cb, we, ca⟩ wr) := hat
    clear hat
    by_cases hlt : k < 5
    ·have hltz : (k : Int) < 5 := by omega
     obtain ⟨x0, x1, x2, x3, x4, x5, x6, x7, x8⟩ := HAT.out.cells
     simp only at x0 x1 x2 x3 x4 x5 x6 x7 x8
     have K3 := BE k wr (HAT.out.steps HS.out)
     have K4 := LA (M (k : Int))
     have y1 := HSY.out k
     have y2 := HSN.out k
     have y3 := HNI.out (SM k) k
     have y4 := HPL.out k
     have y5 := HLR.out k
     have y6 := HSR.out k
     have q8 : SS (k + 1) = SS (k + 1) := rfl
     clear BE LA
     generalize hSk : SM k = m at *
     generalize hPk : SS k = s at *
     generalize LB (M (k : Int)) = L at *
     generalize PE (M (k : Int)) = pe at *
     generalize M (k : Int) = mk at *
     generalize NE m (k : Int) = ne at *
     cases hG : G (k : Int) with
     | false =>
      rw [hG] at K3 y3
      have n1 : ne = false := by
       cases ne with
       | false => rfl
       | true => have := (y3.1 rfl).1; cases this
      have q := y2 n1
      have HQ : Hid (SS (k + 1) = s ∧ SM (k + 1) = m) := q
      clear y1 y2 y3 y4 y5 y6 q n1 hG K4 hSk hPk q8
      go_wp2_with fail
      go_at_call 121
      refine K3.mono ?_
      rintro e wa ⟨rfl, hb⟩
      have HAT2 : Hid (At w ⟨cw, ch, cl, cd, cr, ci, cb, we, ca⟩ wa) := HAT.out.trans hb
      clear hb HAT K3 x0 x1 x2 x3 x4 x5 x6 x7 x8
      go_wp2
      go_roundw
      case rel => exact ⟨k + 1, by omega, by go_num, by rw [HQ.out.2], by rw [HQ.out.1], HAT2.out⟩
      case measure => simp [RowKit.intOf]; omega
     | true =>
      rw [hG] at K3 y3 y4
      rw [y4 rfl] at K4
      clear y4 hG q8
      by_cases h1 : m < L
      ·by_cases h2 : L ≤ g
       ·have n1 : ne = true := by
         exact y3.2 ⟨rfl, by omega⟩
        have HQ : Hid (SS (k + 1) = k ∧ SM (k + 1) = L) := y1 n1
        clear y1 y2 y3 y6 n1 hSk hPk
        go_wp2_with fail
        go_at_call 121
        refine K3.mono ?_
        rintro e wa ⟨rfl, hb⟩
        have HAT2 : Hid (At w ⟨cw, ch, cl, cd, cr, ci, cb, we, ca⟩ wa) := HAT.out.trans hb
        clear hb HAT K3 x0 x1 x2 x3 x4 x5 x6 x7 x8
        obtain ⟨x0, x1, x2, x3, x4, x5, x6, x7, x8⟩ := HAT2.out.cells
        simp only at x0 x1 x2 x3 x4 x5 x6 x7 x8
        go_wp2_with fail
        go_at_call 120
        refine (K4 _).mono ?_
        rintro e wb ⟨rfl, hb⟩
        have HAT3 : Hid (At w ⟨cw, ch, cl, cd, cr, ci, cb, we, ca⟩ wb) := HAT2.out.trans hb
        clear hb HAT2 K4 x0 x1 x2 x3 x4 x5 x6 x7 x8
        go_wp2
        go_roundw
        case rel => exact ⟨k + 1, by omega, by go_num, by rw [HQ.out.2], by rw [HQ.out.1], HAT3.out⟩
        case measure => simp [RowKit.intOf]; omega
       ·have h3 : g ≤ L := by omega
        have h4 : ¬ L < m := by omega
        have n1 : ne = false := by
         cases ne with
         | false => rfl
         | true => have := (y3.1 rfl).2; omega
        have HQ : Hid (SS (k + 1) = s ∧ SM (k + 1) = m) := y2 n1
        clear y1 y2 y3 y6 n1 hSk hPk
        go_wp2_with fail
        go_at_call 121
        refine K3.mono ?_
        rintro e wa ⟨rfl, hb⟩
        have HAT2 : Hid (At w ⟨cw, ch, cl, cd, cr, ci, cb, we, ca⟩ wa) := HAT.out.trans hb
        clear hb HAT K3 x0 x1 x2 x3 x4 x5 x6 x7 x8
        obtain ⟨x0, x1, x2, x3, x4, x5, x6, x7, x8⟩ := HAT2.out.cells
        simp only at x0 x1 x2 x3 x4 x5 x6 x7 x8
        go_wp2_with fail
        go_at_call 120
        refine (K4 _).mono ?_
        rintro e wb ⟨rfl, hb⟩
        have HAT3 : Hid (At w ⟨cw, ch, cl, cd, cr, ci, cb, we, ca⟩ wb) := HAT2.out.trans hb
        clear hb HAT2 K4 x0 x1 x2 x3 x4 x5 x6 x7 x8
        go_wp2
        go_roundw
        case rel => exact ⟨k + 1, by omega, by go_num, by rw [HQ.out.2], by rw [HQ.out.1], HAT3.out⟩
        case measure => simp [RowKit.intOf]; omega
      ·by_cases h2 : g ≤ L
       ·by_cases h3 : L < m
        ·have n1 : ne = true := by
          exact y3.2 ⟨rfl, by omega⟩
         have HQ : Hid (SS (k + 1) = k ∧ SM (k + 1) = L) := y1 n1
         clear y1 y2 y3 y6 n1 hSk hPk
         go_wp2_with fail
         go_at_call 121
         refine K3.mono ?_
         rintro e wa ⟨rfl, hb⟩
         have HAT2 : Hid (At w ⟨cw, ch, cl, cd, cr, ci, cb, we, ca⟩ wa) := HAT.out.trans hb
         clear hb HAT K3 x0 x1 x2 x3 x4 x5 x6 x7 x8
         obtain ⟨x0, x1, x2, x3, x4, x5, x6, x7, x8⟩ := HAT2.out.cells
         simp only at x0 x1 x2 x3 x4 x5 x6 x7 x8
         go_wp2_with fail
         go_at_call 120
         refine (K4 _).mono ?_
         rintro e wb ⟨rfl, hb⟩
         have HAT3 : Hid (At w ⟨cw, ch, cl, cd, cr, ci, cb, we, ca⟩ wb) := HAT2.out.trans hb
         clear hb HAT2 K4 x0 x1 x2 x3 x4 x5 x6 x7 x8
         go_wp2
         go_roundw
         case rel => exact ⟨k + 1, by omega, by go_num, by rw [HQ.out.2], by rw [HQ.out.1], HAT3.out⟩
         case measure => simp [RowKit.intOf]; omega
        ·have n1 : ne = false := by
          cases ne with
          | false => rfl
          | true => have := (y3.1 rfl).2; omega
         have HQ : Hid (SS (k + 1) = s ∧ SM (k + 1) = m) := y2 n1
         clear y1 y2 y3 y6 n1 hSk hPk
         go_wp2_with fail
         go_at_call 121
         refine K3.mono ?_
         rintro e wa ⟨rfl, hb⟩
         have HAT2 : Hid (At w ⟨cw, ch, cl, cd, cr, ci, cb, we, ca⟩ wa) := HAT.out.trans hb
         clear hb HAT K3 x0 x1 x2 x3 x4 x5 x6 x7 x8
         obtain ⟨x0, x1, x2, x3, x4, x5, x6, x7, x8⟩ := HAT2.out.cells
         simp only at x0 x1 x2 x3 x4 x5 x6 x7 x8
         go_wp2_with fail
         go_at_call 120
         refine (K4 _).mono ?_
         rintro e wb ⟨rfl, hb⟩
         have HAT3 : Hid (At w ⟨cw, ch, cl, cd, cr, ci, cb, we, ca⟩ wb) := HAT2.out.trans hb
         clear hb HAT2 K4 x0 x1 x2 x3 x4 x5 x6 x7 x8
         go_wp2
         go_roundw
         case rel => exact ⟨k + 1, by omega, by go_num, by rw [HQ.out.2], by rw [HQ.out.1], HAT3.out⟩
         case measure => simp [RowKit.intOf]; omega
       ·have n1 : ne = false := by
         cases ne with
         | false => rfl
         | true => have := (y3.1 rfl).2; omega
        have HQ : Hid (SS (k + 1) = s ∧ SM (k + 1) = m) := y2 n1
        clear y1 y2 y3 y6 n1 hSk hPk
        go_wp2_with fail
        go_at_call 121
        refine K3.mono ?_
        rintro e wa ⟨rfl, hb⟩
        have HAT2 : Hid (At w ⟨cw, ch, cl, cd, cr, ci, cb, we, ca⟩ wa) := HAT.out.trans hb
        clear hb HAT K3 x0 x1 x2 x3 x4 x5 x6 x7 x8
        obtain ⟨x0, x1, x2, x3, x4, x5, x6, x7, x8⟩ := HAT2.out.cells
        simp only at x0 x1 x2 x3 x4 x5 x6 x7 x8
        go_wp2_with fail
        go_at_call 120
        refine (K4 _).mono ?_
        rintro e wb ⟨rfl, hb⟩
        have HAT3 : Hid (At w ⟨cw, ch, cl, cd, cr, ci, cb, we, ca⟩ wb) := HAT2.out.trans hb
        clear hb HAT2 K4 x0 x1 x2 x3 x4 x5 x6 x7 x8
        go_wp2
        go_roundw
        case rel => exact ⟨k + 1, by omega, by go_num, by rw [HQ.out.2], by rw [HQ.out.1], HAT3.out⟩
        case measure => simp [RowKit.intOf]; omega
    ·have hltz : ¬ (k : Int) < 5 := by omega
     obtain rfl : k = 5 := by omega
     go_wp2
     go_ret2
     exact ⟨rfl, HAT.out.below⟩
end Go.Proofs.YtmmegmonmilkcaaGreatDoor.G
namespace Go.Proofs.YtmmegmonmilkcaaGreatDoor.G
def ox (c : Cf) (a b : Int) : Int := plx c b - plx c a
def oy (c : Cf) (a b : Int) : Int := ply c b - ply c a
def optY (d : Int) : List Int := if 0 < d then [3] else if d < 0 then [4] else []
def opt (c : Cf) (a b : Int) : List Int :=
 if (isN c a && isN c b) = true then
  if a = b then [0] else if ox c a b < 0 then [2] else if 0 < ox c a b then (1 :: if c.we = true then optY (oy c a b) else []) else optY (oy c a b)
 else []
def chAbs (k : Int) : Int := if k < 0 then -(k + 1) else k
def chP (l : List Int) (k : Int) : Int := if l.length = 0 then 0 else l.getD ((chAbs k) % (l.length : Int)).toNat 0
def chB (l : List Int) : Bool := decide (l.length ≠ 0)
theorem opt_self {c : Cf} {a : Int} (h : isN c a = true) : opt c a a = [0] := by unfold opt; rw [h]; simp
theorem opt_no {c : Cf} {a b : Int} (h : (isN c a && isN c b) = false) : opt c a b = [] := by unfold opt; rw [h]; rfl
theorem chAbs_in {k : Int} (h1 : -9223372036854775808 ≤ k) (h2 : k ≤ 9223372036854775807) : 0 ≤ chAbs k ∧ chAbs k ≤ 9223372036854775807 := by unfold chAbs; split <;> omega
theorem off_zero {c : Cf} {a b : Int} (ha : isN c a = true) (hb : isN c b = true) (hne : a ≠ b) : ¬ (ox c a b = 0 ∧ oy c a b = 0) := fun ⟨h1, h2⟩ => by
 unfold ox at h1
 unfold oy at h2
 exact hne (node_eq ha hb (by omega) (by omega))
theorem optY_len (d : Int) : (optY d).length ≤ 1 ∧ (d ≠ 0 → (optY d).length = 1) ∧ (d = 0 → optY d = []) := by
 unfold optY
 refine ⟨?_, fun h => ?_, fun h => ?_⟩
 ·split
  ·simp
  ·split <;> simp
 ·split
  ·rfl
  ·rw [if_pos (by omega)]; rfl
 ·rw [if_neg (by omega), if_neg (by omega)]
theorem opt_len {c : Cf} {a b : Int} (ha : isN c a = true) (hb : isN c b = true) : 1 ≤ (opt c a b).length ∧ (opt c a b).length ≤ 2 ∧ (c.we = false → (opt c a b).length = 1) := by
 unfold opt
 rw [ha, hb]
 simp only [Bool.and_self, if_true]
 by_cases hne : a = b
 ·rw [if_pos hne]; simp
 ·rw [if_neg hne]
  have z := off_zero ha hb hne
  have y := optY_len (oy c a b)
  split
  ·simp
  ·split
   ·cases c.we
    ·simp
    ·simp; omega
   ·have : (optY (oy c a b)).length = 1 := y.2.1 (by omega)
    omega
end Go.Proofs.YtmmegmonmilkcaaGreatDoor.G
namespace Go.Proofs.YtmmegmonmilkcaaGreatDoor.G
open Go.RowKit
def Tabs (w : World) : Prop := 2 < w.heap.size ∧
 (w.cell? ⟨1, 0, none⟩ = some (.int .i64 2) ∧ w.cell? ⟨1, 1, none⟩ = some (.int .i64 0) ∧ w.cell? ⟨1, 2, none⟩ = some (.int .i64 1)) ∧
 (w.cell? ⟨2, 0, none⟩ = some (.int .i64 4) ∧ w.cell? ⟨2, 1, none⟩ = some (.int .i64 0) ∧ w.cell? ⟨2, 2, none⟩ = some (.int .i64 3)) ∧ True
theorem Tabs.below {w w' : World} {B : Nat} (h : Tabs w) (hb : Below B w w') (hB : 2 < B) : Tabs w' := by
 have k : ∀ g j, g ≤ 2 → w'.cell? ⟨g, j, none⟩ = w.cell? ⟨g, j, none⟩ := fun g j hg => hb.cell (p := ⟨g, j, none⟩) (by show g < B; omega)
 unfold Tabs at h ⊢
 simp only [k 1 _ (by omega), k 2 _ (by omega)]
 exact ⟨Nat.lt_of_lt_of_le h.1 hb.size, h.2⟩
theorem Tabs.next {w w' : World} (h : Tabs w) (hb : Below w.heap.size w w') : Tabs w' := h.below hb h.1
theorem At.tabs {w v : World} {c : Cf} (h : At w c v) (hS : Tabs w) : Tabs v := hS.next h.below
def cmp (a b : Int) : Int := if a < b then -1 else if b < a then 1 else 0
theorem isNaN_any (a : Int) (w : World) : Calls Tryz.prog 165 #[.int .i64 a] w fun e w' => e = .returned (.bool false) ∧ w = w' := by
 go_enter Tryz.func165, Tryz.ntmps165
 go_wp2
 go_ret
 exact ⟨rfl, rfl⟩
theorem compare_any (a b : Int) (w : World) : Calls Tryz.prog 153 #[.int .i64 a, .int .i64 b] w fun e w' => e = .returned (.int .i64 (cmp a b)) ∧ w = w' := by
 have K1 := isNaN_any a
 have K2 := isNaN_any b
 unfold cmp
 by_cases h1 : a < b
 ·rw [if_pos h1]
  go_enter Tryz.func153, Tryz.ntmps153
  go_wp2_with fail
  go_at_call 165
  refine (K1 _).mono ?_
  rintro e v1 ⟨rfl, rfl⟩
  go_wp2_with fail
  go_at_call 165
  refine (K2 _).mono ?_
  rintro e v1 ⟨rfl, rfl⟩
  go_wp2
  go_ret
  exact ⟨rfl, rfl⟩
 ·rw [if_neg h1]
  by_cases h2 : b < a
  ·rw [if_pos h2]
   go_enter Tryz.func153, Tryz.ntmps153
   go_wp2_with fail
   go_at_call 165
   refine (K1 _).mono ?_
   rintro e v1 ⟨rfl, rfl⟩
   go_wp2_with fail
   go_at_call 165
   refine (K2 _).mono ?_
   rintro e v1 ⟨rfl, rfl⟩
   go_wp2
   go_ret
   exact ⟨rfl, rfl⟩
  ·rw [if_neg h2]
   go_enter Tryz.func153, Tryz.ntmps153
   go_wp2_with fail
   go_at_call 165
   refine (K1 _).mono ?_
   rintro e v1 ⟨rfl, rfl⟩
   go_wp2_with fail
   go_at_call 165
   refine (K2 _).mono ?_
   rintro e v1 ⟨rfl, rfl⟩
   go_wp2
   go_ret
   exact ⟨rfl, rfl⟩
end Go.Proofs.YtmmegmonmilkcaaGreatDoor.G
namespace Go.Proofs.YtmmegmonmilkcaaGreatDoor.G
open Go.RowKit
theorem lt_of_heap {w : World} {b : Nat} {x : Obj} (h : w.heap[b]? = some x) : b < w.heap.size := by
 rcases Nat.lt_or_ge b w.heap.size with h' | h'
 ·exact h'
 ·rw [Array.getElem?_eq_none h'] at h; cases h
theorem cell_of {w : World} {b : Nat} {c : Array Value} {t : TypeId} {fr : Nat × Nat} (h : w.heap[b]? = some (.cells c t fr)) (k : Nat) : w.cell? ⟨b, k, none⟩ = c[k]? := by
 simp [World.cell?, h]
def Rd (w : World) (a : Option Addr) (vs : List Value) : Prop :=
 ∀ (j : Nat) (v : Value), vs[j]? = some v → ∃ g, a = some ⟨g, 0, none⟩ ∧ g < w.heap.size ∧ w.cell? ⟨g, j, none⟩ = some v
theorem Rd.keep {w w' : World} {a : Option Addr} {vs : List Value} (h : Rd w a vs) (hs : w.heap.size ≤ w'.heap.size) (hk : ∀ g, g < w.heap.size → w'.heap[g]? = w.heap[g]?) : Rd w' a vs := fun j v hj => by
 obtain ⟨g, h1, h2, h3⟩ := h j v hj
 exact ⟨g, h1, by omega, by rw [World.cell?_of_block (hk g h2)]; exact h3⟩
theorem Rd.below {w w' : World} {a : Option Addr} {vs : List Value} (h : Rd w a vs) (b : Below w.heap.size w w') : Rd w' a vs := h.keep b.size (fun g hg => b.block g hg)
theorem Rd.alloc {w : World} {a : Option Addr} {vs : List Value} (h : Rd w a vs) (o : Obj) : Rd (w.alloc o) a vs := h.keep (by simp) (fun g hg => Below.heap_alloc _ _ _ hg)
def Own (e : TypeId) (w : World) (B : Nat) (v : Value) (l : List Value) : Prop := w.ownsRow B e 1 v l.length l
theorem Own.rd {t : TypeId} {w : World} {B : Nat} {v : Value} {l : List Value} (h : Own t w B v l) : ∃ a cap, v = .slice a l.length cap ∧ l.length ≤ cap ∧ cap ≤ maxLen ∧ Rd w a l := by
 obtain ⟨h1, h2⟩ := h
 rcases h2 with ⟨rfl, h2⟩ | ⟨g, cap, cur, rfl, hg, hh, hc1, hc2, hc3, hc4⟩
 ·refine ⟨none, 0, by rw [h2], by omega, by simp [maxLen], fun j v hj => ?_⟩
  have : l = [] := List.eq_nil_of_length_eq_zero h2
  subst this
  cases hj
 ·refine ⟨_, _, rfl, hc1, hc2, fun j v hj => ⟨g, rfl, lt_of_heap hh, ?_⟩⟩
  have hlt : j < l.length * 1 := by
   have := (List.getElem?_eq_some_iff.mp hj).1
   rw [← h1]; exact this
  rw [cell_of hh]
  have : cur[j]? = (List.take (l.length * 1) cur.toList)[j]? := by rw [List.getElem?_take_of_lt hlt]; simp
  rw [this, hc4]
  exact hj
theorem Own.form {e : TypeId} {w : World} {B : Nat} {v : Value} {l : List Value} (h : Own e w B v l) (hl : 0 < l.length) :
  ∃ g cap, v = .slice (some ⟨g, 0, none⟩) l.length cap ∧ l.length ≤ cap ∧ cap ≤ maxLen ∧ B ≤ g ∧ g < w.heap.size ∧ ∀ j x, l[j]? = some x → w.cell? ⟨g, j, none⟩ = some x := by
 have h0 := h
 obtain ⟨h1, h2⟩ := h
 rcases h2 with ⟨rfl, h2⟩ | ⟨g, cap, cur, rfl, hg, hh, hc1, hc2, hc3, hc4⟩
 ·omega
 ·refine ⟨g, cap, rfl, hc1, hc2, hg, lt_of_heap hh, fun j x hj => ?_⟩
  obtain ⟨a, cap', e, _, _, hr⟩ := h0.rd
  obtain ⟨g', e', _, hc⟩ := hr j x hj
  simp only [Value.slice.injEq] at e
  obtain ⟨e, _⟩ := e
  rw [e'] at e
  simp only [Option.some.injEq, Addr.mk.injEq] at e
  obtain ⟨rfl, _⟩ := e
  exact hc
theorem Own.snoc {t : TypeId} {w : World} {B : Nat} {v x : Value} {l : List Value} (h : w.ownsRow B t 1 v (l.length + 1) (l ++ [x])) : Own t w B v (l ++ [x]) := by
 unfold Own
 simpa using h
theorem Own.nil (w : World) (B : Nat) (e : TypeId) : Own e w B (.slice none 0 0) [] := World.ownsRow_nil w B e 1
theorem Own.mono {e : TypeId} {w : World} {B B' : Nat} {v : Value} {l : List Value} (h : Own e w B v l) (hb : B' ≤ B) : Own e w B' v l := by
 refine ⟨h.1, ?_⟩
 rcases h.2 with hn | ⟨g, cap, cur, e, hg, r⟩
 ·exact Or.inl hn
 ·exact Or.inr ⟨g, cap, cur, e, Nat.le_trans hb hg, r⟩
theorem Own.lit {e : TypeId} {w : World} {B : Nat} (xs : Array Value) (hb : B ≤ w.heap.size) (hn : xs.size ≤ 1000) : Own e (w.alloc (.cells xs e)) B (.slice (some ⟨w.heap.size, 0, none⟩) xs.size xs.size) xs.toList := by
 have h := World.ownsRow_lit (e := e) (size := 1) (base := B) w xs xs.size hb (by unfold maxLen; omega) (by simp)
 unfold Own
 simpa using h
theorem own_ne {w : World} {B : Nat} {e t : TypeId} {v : Value} {l : List Value} {g : Nat} {C : Array Value} {fr : Nat × Nat} (h : Own e w B v l) (hg : w.heap[g]? = some (.cells C t fr)) (hne : e ≠ t) : v.ownBlock ≠ some g := by
 rcases h.2 with ⟨rfl, _⟩ | ⟨g', cap, cur, rfl, _, hh, _⟩
 ·simp [Value.ownBlock]
 ·intro he
  have : g' = g := by simpa [Value.ownBlock] using he
  subst this
  rw [hg] at hh
  injection hh with hh
  injection hh with _ ht
  exact hne ht.symm
theorem own_two {w : World} {B : Nat} {e t : TypeId} {v u : Value} {l k : List Value} (h : Own e w B v l) (h' : Own t w B u k) (hne : t ≠ e) : u.ownBlock = none ∨ u.ownBlock ≠ v.ownBlock := by
 rcases h'.2 with ⟨rfl, _⟩ | ⟨g', cap, cur, rfl, _, hh, _⟩
 ·exact Or.inl rfl
 ·refine Or.inr fun c => own_ne h hh (fun x => hne x.symm) ?_
  rw [← c]; rfl
def Kept (e : TypeId) (B : Nat) (w w' : World) : Prop :=
 w.heap.size ≤ w'.heap.size ∧ (∀ A, Below B A w → Below B A w') ∧
 (∀ (t : TypeId) (v : Value) (l : List Value), t ≠ e → Own t w B v l → Own t w' B v l) ∧
 (∀ (g : Nat) (C : Array Value) (t : TypeId) (fr : Nat × Nat), t ≠ e → w.heap[g]? = some (Obj.cells C t fr) → w'.heap[g]? = some (Obj.cells C t fr))
theorem wpList_app_one {P : Program} {ops : Array Oper} {rest : List Oper} {o : Oper} {a : Act} {Q : Exit → Act → World → Prop} (hgd : o.guard = none) (s x : Operand) (t e : TypeId) (i : TypeInfo) (z : Value) (bytes : Nat)
  (ho : o.op = .call { callee := .builtin .append, args := #[s, x], argTypes := #[t, t] })
  (ht : P.underlying t = some (.slice e)) (hi : P.info? e = some i) (hz : i.zero = some z) (h1 : i.size = 1) (hby : i.bytes = bytes) (hzs : z.cells.size = 1) (hb8 : bytes ≤ 64)
  (B : Nat) (w : World) (v : Value) (L : List Value) (u : Value) (hs : a.eval s = v) (hown : Own e w B v L) (hx : a.eval x = .slice (some ⟨w.heap.size, 0, none⟩) 1 1) (hu : u.oneCell' = true)
  (hlen : L.length ≤ 1000000) (hbase : B ≤ w.heap.size)
  (h : ∀ v' w', Own e w' B v' (L ++ [u]) → Kept e B w w' → wpList P ops Q rest (a.put o.dst v') w') :
  wpList P ops Q (o :: rest) a (w.alloc (.cells #[u] e)) := by
 refine wpList_append_own _ hgd s x t ho B e i z 1 bytes ht hi hz h1 hby hzs (by decide) v L.length L hs (World.ownsRow.alloc hown _) ⟨w.heap.size, 0, none⟩ 1 1 [u] hx rfl ?_ ?_ ?_ ?_ ?_ ?_
 ·intro j y hj
  match j, hj with
  | 0, hj => simp at hj; subst hj; exact (World.cell?_alloc_at _ _ _ _ rfl).trans rfl
 ·intro y hy; simp at hy; subst hy; exact hu
 ·unfold maxLen; omega
 ·have : (L.length + 1) * bytes ≤ (L.length + 1) * 64 := Nat.mul_le_mul_left _ hb8
  omega
 ·simp; omega
 ·intro v' w' hown' hgrow _
  have hsz : (w.alloc (.cells #[u] e)).heap.size ≤ w'.heap.size := (hgrow.size : _)
  simp at hsz
  refine h v' w' (Own.snoc hown') ⟨by omega, fun A hA => ?_, fun t' v2 l2 hne h2 => ?_, fun g C t' fr hne hg => ?_⟩
  ·exact Below.grown (hA.alloc hbase _) hgrow (by simp; omega) (fun q hq => (World.ownsRow.lt hown q hq).1)
  ·exact World.ownsRow.kept (World.ownsRow.alloc h2 _) hgrow (own_two hown h2 hne)
  ·rw [hgrow.block g (by have := lt_of_heap hg; simp; omega) (fun c => own_ne hown hg (fun x => hne x.symm) c.symm), Below.heap_alloc _ _ _ (lt_of_heap hg)]
   exact hg
end Go.Proofs.YtmmegmonmilkcaaGreatDoor.G
namespace Go.Proofs.YtmmegmonmilkcaaGreatDoor.G
open Go.RowKit
theorem At.of {w v : World} {c : Cf} (h : Below (w.heap.size + 1) (w.alloc (.cells (cfc c) 23)) v) : At w c v := h
def vi (l : List Int) : List Value := l.map fun n => .int .i64 n
theorem vi_len (l : List Int) : (vi l).length = l.length := by simp [vi]
theorem vi_snoc (l : List Int) (n : Int) : vi l ++ [.int .i64 n] = vi (l ++ [n]) := by simp [vi]
theorem vi_at {l : List Int} {k : Nat} (h : k < l.length) : (vi l)[k]? = some (.int .i64 (l.getD k 0)) := by simp [vi, h]
def Row (w : World) (l : List Int) (e : Ending) (w' : World) : Prop := ∃ v, e = .returned v ∧ Own 3 w' w.heap.size v (vi l) ∧ Below w.heap.size w w'
theorem Row.mk {w w' : World} {l : List Int} {v : Value} (h : Own 3 w' w.heap.size v (vi l)) (hb : Below w.heap.size w w') : Row w l (.returned v) w' := ⟨v, rfl, h, hb⟩
theorem Tryz.info3 : (Tryz.prog.info? 3).map (fun i => (i.zero, i.size, i.bytes)) = some (some (.int .i64 0), 1, 8) := by kernel_rfl
end Go.Proofs.YtmmegmonmilkcaaGreatDoor.G
namespace Go.Proofs.YtmmegmonmilkcaaGreatDoor.G
open Go.RowKit
def tox (d : Int) : Int := if d < 0 then 2 else if 0 < d then 1 else 0
def toy (d : Int) : Int := if d < 0 then 4 else if 0 < d then 3 else 0
def twB (c : Cf) (a b : Int) : Bool := isN c a && isN c b
def twX (c : Cf) (a b : Int) : Int := if twB c a b = true then tox (ox c a b) else 0
def twY (c : Cf) (a b : Int) : Int := if twB c a b = true then toy (oy c a b) else 0
theorem cmp_tox (a b : Int) : (cmp b a = -1 ∧ tox (b - a) = 2 ∧ toy (b - a) = 4) ∨ (cmp b a = 0 ∧ tox (b - a) = 0 ∧ toy (b - a) = 0) ∨ (cmp b a = 1 ∧ tox (b - a) = 1 ∧ toy (b - a) = 3) := by
 unfold cmp tox toy
 rcases Int.lt_trichotomy b a with h | h | h
 ·left; rw [if_pos h, if_pos (by omega), if_pos (by omega)]; exact ⟨rfl, rfl, rfl⟩
 ·right; left; rw [if_neg (by omega), if_neg (by omega), if_neg (by omega), if_neg (by omega), if_neg (by omega), if_neg (by omega)]; exact ⟨rfl, rfl, rfl⟩
 ·right; right; rw [if_neg (by omega), if_pos h, if_neg (by omega), if_pos (by omega), if_neg (by omega), if_pos (by omega)]; exact ⟨rfl, rfl, rfl⟩
set_option maxHeartbeats 1000000 in
theorem toward_any (c : Cf) (a b : Int) (w : World) (hT : Tabs w) : Calls Tryz.prog 140 #[cfv c, .int .i64 a, .int .i64 b] w fun e w' => e = .returned (.tuple #[.int .i64 (twX c a b), .int .i64 (twY c a b), .bool (twB c a b)]) ∧ Below w.heap.size w w' := by
 have K1 := place_any c a
 have K2 := place_any c b
 have C1 := compare_any (plx c b) (plx c a)
 have C2 := compare_any (ply c b) (ply c a)
 have A0 : Hid (At w c (w.alloc (.cells (cfc c) 23))) := At.start w c
 have HT : Hid (Tabs w) := hT
 clear hT
 cases h1 : isN c a with
 | false =>
  rw [show twB c a b = false by unfold twB; rw [h1]; rfl, show twX c a b = 0 by unfold twX twB; rw [h1]; rfl, show twY c a b = 0 by unfold twY twB; rw [h1]; rfl]
  rw [(pl_no h1).1, (pl_no h1).2.1, (pl_no h1).2.2] at K1
  clear C1 C2 h1
  generalize plx c b = X at *
  generalize ply c b = Y at *
  generalize ple c b = E at *
  obtain ⟨cw, ch, cl, cd, cr, ci, cb, we, ca⟩ := c
  simp only [cfv, cfc] at *
  go_enter Tryz.func140, Tryz.ntmps140
  go_wp2_with fail
  go_at_call 138
  refine (K1 _).mono ?_
  rintro e v1 ⟨rfl, hb⟩
  have A1 := A0.out.trans hb
  clear hb K1
  obtain ⟨x0, x1, x2, x3, x4, x5, x6, x7, x8⟩ := A1.cells
  have HA1 : Hid (At w _ v1) := A1
  clear A1
  simp only at x0 x1 x2 x3 x4 x5 x6 x7 x8
  go_wp2_with fail
  go_at_call 138
  refine (K2 _).mono ?_
  rintro e v2 ⟨rfl, hb⟩
  have HA2 : Hid (At w _ v2) := HA1.out.trans hb
  clear hb K2 x0 x1 x2 x3 x4 x5 x6 x7 x8
  go_wp2
  go_ret3
  exact ⟨rfl, HA2.out.below⟩
 | true =>
 cases h2 : isN c b with
 | false =>
  rw [show twB c a b = false by unfold twB; rw [h1, h2]; rfl, show twX c a b = 0 by unfold twX twB; rw [h1, h2]; rfl, show twY c a b = 0 by unfold twY twB; rw [h1, h2]; rfl]
  rw [pl_yes h1] at K1
  rw [(pl_no h2).1, (pl_no h2).2.1, (pl_no h2).2.2] at K2
  clear C1 C2 h1 h2
  generalize plx c a = X at *
  generalize ply c a = Y at *
  obtain ⟨cw, ch, cl, cd, cr, ci, cb, we, ca⟩ := c
  simp only [cfv, cfc] at *
  go_enter Tryz.func140, Tryz.ntmps140
  go_wp2_with fail
  go_at_call 138
  refine (K1 _).mono ?_
  rintro e v1 ⟨rfl, hb⟩
  have A1 := A0.out.trans hb
  clear hb K1
  obtain ⟨x0, x1, x2, x3, x4, x5, x6, x7, x8⟩ := A1.cells
  have HA1 : Hid (At w _ v1) := A1
  clear A1
  simp only at x0 x1 x2 x3 x4 x5 x6 x7 x8
  go_wp2_with fail
  go_at_call 138
  refine (K2 _).mono ?_
  rintro e v2 ⟨rfl, hb⟩
  have HA2 : Hid (At w _ v2) := HA1.out.trans hb
  clear hb K2 x0 x1 x2 x3 x4 x5 x6 x7 x8
  go_wp2
  go_ret3
  exact ⟨rfl, HA2.out.below⟩
 | true =>
  have e0 : twB c a b = true := by unfold twB; rw [h1, h2]; rfl
  rw [e0, show twX c a b = tox (plx c b - plx c a) by unfold twX; rw [e0]; rfl, show twY c a b = toy (ply c b - ply c a) by unfold twY; rw [e0]; rfl]
  rw [pl_yes h1] at K1
  rw [pl_yes h2] at K2
  have D1 := cmp_tox (plx c a) (plx c b)
  have D2 := cmp_tox (ply c a) (ply c b)
  generalize cmp (plx c b) (plx c a) = M at *
  generalize cmp (ply c b) (ply c a) = M' at *
  have E1 : (M = -1 ∧ tox (plx c b - plx c a) = 2) ∨ (M = 0 ∧ tox (plx c b - plx c a) = 0) ∨ (M = 1 ∧ tox (plx c b - plx c a) = 1) := by omega
  have E2 : (M' = -1 ∧ toy (ply c b - ply c a) = 4) ∨ (M' = 0 ∧ toy (ply c b - ply c a) = 0) ∨ (M' = 1 ∧ toy (ply c b - ply c a) = 3) := by omega
  clear D1 D2
  generalize tox (plx c b - plx c a) = R at *
  generalize toy (ply c b - ply c a) = R' at *
  clear h1 h2 e0
  generalize plx c a = X at *
  generalize ply c a = Y at *
  generalize plx c b = X' at *
  generalize ply c b = Y' at *
  obtain ⟨cw, ch, cl, cd, cr, ci, cb, we, ca⟩ := c
  simp only [cfv, cfc] at *
  rcases E1 with ⟨rfl, rfl⟩ | ⟨rfl, rfl⟩ | ⟨rfl, rfl⟩ <;> rcases E2 with ⟨rfl, rfl⟩ | ⟨rfl, rfl⟩ | ⟨rfl, rfl⟩
  all_goals
   go_enter Tryz.func140, Tryz.ntmps140
   go_wp2_with fail
   go_at_call 138
   refine (K1 _).mono ?_
   rintro e v1 ⟨rfl, hb⟩
   have A1 := A0.out.trans hb
   clear hb K1
   obtain ⟨x0, x1, x2, x3, x4, x5, x6, x7, x8⟩ := A1.cells
   have HA1 : Hid (At w _ v1) := A1
   clear A1
   simp only at x0 x1 x2 x3 x4 x5 x6 x7 x8
   go_wp2_with fail
   go_at_call 138
   refine (K2 _).mono ?_
   rintro e v2 ⟨rfl, hb⟩
   have HA2 : Hid (At w _ v2) := HA1.out.trans hb
   clear hb K2 x0 x1 x2 x3 x4 x5 x6 x7 x8
   obtain ⟨hz, ⟨t0, t1, t2⟩, ⟨s0, s1, s2⟩, _⟩ := HA2.out.tabs HT.out
   go_wp2_with fail
   go_quiet (first | (go_at_call_of 153 X'; exact Calls.quiet_of_same ((C1 _).mono fun _ _ h => ⟨h.1, h.2.symm⟩)) | (go_at_call_of 153 Y'; exact Calls.quiet_of_same ((C2 _).mono fun _ _ h => ⟨h.1, h.2.symm⟩)))
   go_wp2
   go_ret3
   exact ⟨rfl, (HA2.out.drewN _).below⟩
theorem tw_opt {c : Cf} {a b : Int} (h : twB c a b = true) :
  opt c a b = if twX c a b = 0 then [twY c a b] else if twY c a b = 0 ∨ twX c a b = 2 ∨ c.we = false then [twX c a b] else [twX c a b, twY c a b] := by
 have h' := h
 unfold twB at h'
 simp only [Bool.and_eq_true] at h'
 obtain ⟨ha, hb⟩ := h'
 unfold twX twY
 rw [if_pos h, if_pos h]
 by_cases hne : a = b
 ·subst hne
  rw [opt_self ha]
  unfold ox oy tox toy
  simp
 ·have z := off_zero ha hb hne
  unfold opt
  rw [ha, hb]
  simp only [Bool.and_self, if_true, if_neg hne]
  generalize ox c a b = X at *
  generalize oy c a b = Y at *
  unfold tox toy optY
  rcases Int.lt_trichotomy X 0 with h1 | h1 | h1
  ·simp [h1]
  ·subst h1
   rcases Int.lt_trichotomy Y 0 with h2 | h2 | h2
   ·have : ¬ 0 < Y := by omega
    simp [h2, this]
   ·omega
   ·have : ¬ Y < 0 := by omega
    simp [h2, this]
  ·have h1' : ¬ X < 0 := by omega
   rcases Int.lt_trichotomy Y 0 with h2 | h2 | h2
   ·have : ¬ 0 < Y := by omega
    cases c.we <;> simp [h1, h1', h2, this]
   ·subst h2
    cases c.we <;> simp [h1, h1']
   ·have : ¬ Y < 0 := by omega
    cases c.we <;> simp [h1, h1', h2, this]
theorem tw_no {c : Cf} {a b : Int} (h : twB c a b = false) : opt c a b = [] ∧ twX c a b = 0 ∧ twY c a b = 0 := by
 refine ⟨opt_no h, ?_, ?_⟩
 ·unfold twX; rw [h]; rfl
 ·unfold twY; rw [h]; rfl
end Go.Proofs.YtmmegmonmilkcaaGreatDoor.G
namespace Go.Proofs.YtmmegmonmilkcaaGreatDoor.G
open Go.RowKit
theorem Row.of {w w' : World} {l l' : List Int} {v : Value} (e : l' = l) (h : Own 3 w' w.heap.size v (vi l)) (hb : Below w.heap.size w w') : Row w l' (.returned v) w' := by
 subst e
 exact ⟨v, rfl, h, hb⟩
set_option maxHeartbeats 1000000 in
theorem options_any (c : Cf) (a b : Int) (w : World) (hT : Tabs w) : Calls Tryz.prog 122 #[cfv c, .int .i64 a, .int .i64 b] w (Row w (opt c a b)) := by
 have A0 : Hid (At w c (w.alloc (.cells (cfc c) 23))) := At.start w c
 have K := toward_any c a b _ (A0.out.tabs hT)
 clear hT
 cases h : twB c a b with
 | false =>
  rw [(tw_no h).1]
  rw [h, (tw_no h).2.1, (tw_no h).2.2] at K
  clear h
  obtain ⟨cw, ch, cl, cd, cr, ci, cb, we, ca⟩ := c
  simp only [cfv, cfc] at *
  go_enter Tryz.func122, Tryz.ntmps122
  go_wp2_with fail
  go_at_call 140
  refine K.mono ?_
  rintro e v1 ⟨rfl, hb⟩
  have HA1 : Hid (At w _ v1) := A0.out.trans hb
  clear hb K
  go_wp2
  go_ret
  exact Row.mk (Own.nil _ _ _) HA1.out.below
 | true =>
  rw [h] at K
  have e0 := tw_opt h
  obtain ⟨L, hL⟩ : ∃ L, opt c a b = L := ⟨_, rfl⟩
  rw [hL] at e0 ⊢
  clear h hL
  generalize twX c a b = X at *
  generalize twY c a b = Y at *
  obtain ⟨cw, ch, cl, cd, cr, ci, cb, we, ca⟩ := c
  have HL : Hid (L = if X = 0 then [Y] else if Y = 0 ∨ X = 2 ∨ we = false then [X] else [X, Y]) := e0
  clear e0
  simp only [cfv, cfc] at *
  go_enter Tryz.func122, Tryz.ntmps122
  go_wp2_with fail
  go_at_call 140
  refine K.mono ?_
  rintro e v1 ⟨rfl, hb⟩
  have A1 := A0.out.trans hb
  clear hb K
  obtain ⟨x0, x1, x2, x3, x4, x5, x6, x7, x8⟩ := A1.cells
  have HA1 : Hid (At w _ v1) := A1
  have hsz : w.heap.size ≤ v1.heap.size := A1.below.size
  clear A1 A0
  simp only at x0 x1 x2 x3 x4 x5 x6 x7 x8
  clear x0 x1 x2 x3 x4 x5 x6 x8
  by_cases hx : X = 0
  ·subst hx
   go_wp2
   go_ret
   exact Row.of (l := [Y]) (by rw [HL.out]; simp) (Own.lit #[.int .i64 Y] hsz (by simp)) (HA1.out.below.alloc hsz _)
  ·by_cases hy : Y = 0
   ·subst hy
    go_wp2
    go_ret
    exact Row.of (l := [X]) (by rw [HL.out]; simp [hx]) (Own.lit #[.int .i64 X] hsz (by simp)) (HA1.out.below.alloc hsz _)
   ·by_cases h2 : X = 2
    ·subst h2
     go_wp2
     go_ret
     exact Row.of (l := [2]) (by rw [HL.out]; simp) (Own.lit #[.int .i64 2] hsz (by simp)) (HA1.out.below.alloc hsz _)
    ·cases we with
     | false =>
      go_wp2
      go_ret
      exact Row.of (l := [X]) (by rw [HL.out]; simp [hx]) (Own.lit #[.int .i64 X] hsz (by simp)) (HA1.out.below.alloc hsz _)
     | true =>
      go_wp2
      go_ret
      exact Row.of (l := [X, Y]) (by rw [HL.out]; simp [hx, hy, h2]) (Own.lit #[.int .i64 X, .int .i64 Y] hsz (by simp)) (HA1.out.below.alloc hsz _)
end Go.Proofs.YtmmegmonmilkcaaGreatDoor.G
namespace Go.Proofs.YtmmegmonmilkcaaGreatDoor.G
theorem opt_le2 (c : Cf) (a b : Int) : (opt c a b).length ≤ 2 := by
 cases h : isN c a && isN c b with
 | false => rw [opt_no h]; simp
 | true =>
  simp only [Bool.and_eq_true] at h
  exact (opt_len h.1 h.2).2.1
theorem ch_at {l : List Int} (h : l.length ≠ 0) {k : Int} (h1 : -9223372036854775808 ≤ k) (h2 : k ≤ 9223372036854775807) :
  ∃ j : Nat, j < l.length ∧ (chAbs k).tmod (l.length : Int) = (j : Int) ∧ chP l k = l.getD j 0 := by
 have a := chAbs_in h1 h2
 have m0 : 0 ≤ chAbs k % (l.length : Int) := Int.emod_nonneg _ (by omega)
 have m1 : chAbs k % (l.length : Int) < l.length := Int.emod_lt_of_pos _ (by omega)
 refine ⟨(chAbs k % (l.length : Int)).toNat, by omega, ?_, ?_⟩
 ·rw [Int.tmod_eq_emod_of_nonneg a.1]; omega
 ·unfold chP; rw [if_neg h]
end Go.Proofs.YtmmegmonmilkcaaGreatDoor.G
namespace Go.Proofs.YtmmegmonmilkcaaGreatDoor.G
open Go.RowKit
set_option maxHeartbeats 1000000 in
theorem choose_any (c : Cf) (a b k : Int) (h1 : -9223372036854775808 ≤ k) (h2 : k ≤ 9223372036854775807) (w : World) (hT : Tabs w) : Calls Tryz.prog 95 #[cfv c, .int .i64 a, .int .i64 b, .int .i64 k] w fun e w' => e = .returned (.tuple #[.int .i64 (chP (opt c a b) k), .bool (chB (opt c a b))]) ∧ Below w.heap.size w w' := by
 have A0 : Hid (At w c (w.alloc (.cells (cfc c) 23))) := At.start w c
 have K := options_any c a b _ (A0.out.tabs hT)
 clear hT
 have LE := opt_le2 c a b
 generalize opt c a b = L at *
 by_cases hl : L = []
 ·subst hl
  rw [show chP [] k = 0 by simp [chP], show chB [] = false from rfl]
  clear LE
  obtain ⟨cw, ch, cl, cd, cr, ci, cb, we, ca⟩ := c
  simp only [cfv, cfc] at *
  go_enter Tryz.func95, Tryz.ntmps95
  go_wp2_with fail
  go_at_call 122
  refine K.mono ?_
  rintro e v1 ⟨v, rfl, own, hb⟩
  have HA1 : Hid (At w _ v1) := A0.out.trans hb
  obtain ⟨al, cap, rfl, _, _, _⟩ := own.rd
  rw [vi_len]
  clear hb K own
  go_wp2
  go_ret2
  exact ⟨rfl, HA1.out.below⟩
 ·have hl0 : L.length ≠ 0 := fun e => hl (List.eq_nil_of_length_eq_zero e)
  obtain ⟨j, hj, hm, hp⟩ := ch_at hl0 h1 h2
  rw [hp, show chB L = true by unfold chB; simp [hl0]]
  have HV : Hid ((vi L)[j]? = some (.int .i64 (L.getD j 0))) := vi_at hj
  have HL : Hid ((vi L).length = L.length) := vi_len L
  generalize L.getD j 0 = R at *
  generalize hn : L.length = n at *
  clear hn hp hl
  have hj1 : (j : Int) < n := by omega
  have hj0 : (0 : Int) ≤ j := by omega
  have hn0 : ¬ (n : Int) = 0 := by omega
  obtain ⟨cw, ch, cl, cd, cr, ci, cb, we, ca⟩ := c
  simp only [cfv, cfc] at *
  by_cases k0 : k < 0
  ·have e0 : chAbs k = -1 - k := by unfold chAbs; rw [if_pos k0]; omega
   obtain ⟨q, hq⟩ : ∃ q, q = -1 - k := ⟨_, rfl⟩
   have e1 : IntKind.i64.wrap (-1 - k) = q := by rw [IntWalk.i64_in _ (by omega)]; omega
   rw [e0, ← hq] at hm
   clear hq
   clear e0 h1 h2 hl0 hj
   go_enter Tryz.func95, Tryz.ntmps95
   go_wp2_with fail
   go_at_call 122
   refine K.mono ?_
   rintro e v1 ⟨v, rfl, own, hb⟩
   have HA1 : Hid (At w _ v1) := A0.out.trans hb
   obtain ⟨g, cap, rfl, _, _, _, _, hc⟩ := own.form (by rw [HL.out]; omega)
   have c0 := hc j _ HV.out
   rw [HL.out]
   clear hb K own hc
   go_wp2
   go_ret2
   exact ⟨rfl, HA1.out.below⟩
  ·have e0 : chAbs k = k := by unfold chAbs; rw [if_neg k0]
   rw [e0] at hm
   clear e0 h1 h2 hl0 hj
   go_enter Tryz.func95, Tryz.ntmps95
   go_wp2_with fail
   go_at_call 122
   refine K.mono ?_
   rintro e v1 ⟨v, rfl, own, hb⟩
   have HA1 : Hid (At w _ v1) := A0.out.trans hb
   obtain ⟨g, cap, rfl, _, _, _, _, hc⟩ := own.form (by rw [HL.out]; omega)
   have c0 := hc j _ HV.out
   rw [HL.out]
   clear hb K own hc
   go_wp2
   go_ret2
   exact ⟨rfl, HA1.out.below⟩
end Go.Proofs.YtmmegmonmilkcaaGreatDoor.G
namespace Go.Proofs.YtmmegmonmilkcaaGreatDoor.G
open Go.RowKit
def Blk (v : World) (b : Nat) (c : Cf) : Prop := v.heap[b]? = some (.cells (cfc c) 23 (0, 0))
theorem Blk.all {v : World} {b : Nat} {c : Cf} (h : Blk v b c) (d : Cf) :
  Blk (((((((((v.setCell ⟨b, 0, none⟩ (.int .i64 d.w)).setCell ⟨b, 1, none⟩ (.int .i64 d.h)).setCell ⟨b, 2, none⟩ (.int .i64 d.l)).setCell ⟨b, 3, none⟩ (.int .i64 d.d)).setCell ⟨b, 4, none⟩ (.int .i64 d.r)).setCell ⟨b, 5, none⟩ (.int .i64 d.i)).setCell ⟨b, 6, none⟩ (.int .i64 d.b)).setCell ⟨b, 7, none⟩ (.bool d.we)).setCell ⟨b, 8, none⟩ (.bool d.ca)) b d := by
 unfold Blk at h ⊢
 simp [World.setCell, Array.getElem?_modify, h]
theorem below_nine {w v : World} {B b : Nat} (h : Below B w v) (hb : B ≤ b) (x0 x1 x2 x3 x4 x5 x6 x7 x8 : Value) :
  Below B w (((((((((v.setCell ⟨b, 0, none⟩ x0).setCell ⟨b, 1, none⟩ x1).setCell ⟨b, 2, none⟩ x2).setCell ⟨b, 3, none⟩ x3).setCell ⟨b, 4, none⟩ x4).setCell ⟨b, 5, none⟩ x5).setCell ⟨b, 6, none⟩ x6).setCell ⟨b, 7, none⟩ x7).setCell ⟨b, 8, none⟩ x8) :=
 ((((((((h.setCell hb _).setCell hb _).setCell hb _).setCell hb _).setCell hb _).setCell hb _).setCell hb _).setCell hb _).setCell hb _
def W1 (w : World) (c : Cf) (v : World) : Prop := Blk v w.heap.size c ∧ Below w.heap.size w v
end Go.Proofs.YtmmegmonmilkcaaGreatDoor.G
namespace Go.Proofs.YtmmegmonmilkcaaGreatDoor.G
open Go.RowKit
theorem tm_in (x m : Int) (hm : 0 < m) : ∃ q : Int, (IntKind.u64.wrap x).tmod m = q ∧ 0 ≤ q ∧ q < m := by
 have h0 : 0 ≤ IntKind.u64.wrap x := by
  have := IntKind.wrap_u64 x
  rw [this]
  omega
 refine ⟨_, rfl, Int.tmod_nonneg _ h0, ?_⟩
 rw [Int.tmod_eq_emod_of_nonneg h0]
 exact Int.emod_lt_of_pos _ hm
def SmallP (w : World) (e : Ending) (w' : World) : Prop := ∃ c', e = .returned (cfv c') ∧ Below w.heap.size w w' ∧ Fits c' ∧ c'.w ≤ 4 ∧ c'.h ≤ 4
theorem SmallP.mk {w w' : World} {c' : Cf} (hb : Below w.heap.size w w') (f : Fits c') (hw : c'.w ≤ 4) (hh : c'.h ≤ 4) : SmallP w (.returned (cfv c')) w' := ⟨c', rfl, hb, f, hw, hh⟩
set_option maxRecDepth 100000 in
set_option maxHeartbeats 1000000 in
theorem small_any (c : Cf) (w : World) : Calls Tryz.prog 10 #[cfv c] w (SmallP w) := by
 obtain ⟨cw, ch, cl, cd, cr, ci, cb, we, ca⟩ := c
 obtain ⟨qw, ew, aw, bw⟩ := tm_in cw 4 (by decide)
 obtain ⟨qh, eh, ah, bh⟩ := tm_in ch 4 (by decide)
 obtain ⟨ql, el, al, bl⟩ := tm_in cl 3 (by decide)
 obtain ⟨qd, ed, ad, bd⟩ := tm_in cd 3 (by decide)
 obtain ⟨qr, er, ar, br⟩ := tm_in cr 3 (by decide)
 obtain ⟨qi, ei, ai, bi⟩ := tm_in ci 3 (by decide)
 obtain ⟨qb, eb, ab, bb⟩ := tm_in cb 4 (by decide)
 simp only [cfv, cfc] at *
 cases ca
 ·go_enter Tryz.func10, Tryz.ntmps10
  go_wp2
  exact bodyPost_ret (v := .agg (zq5 (1 + qw) (1 + qh) (1 + ql) (1 + qd) (1 + qr) (1 + qi) (1 + qb) we false)) (by simp [results, Tryz.results10, go_sem]) rfl (SmallP.mk (c' := ⟨1 + qw, 1 + qh, (1 + ql), 1 + qd, 1 + qr, 1 + qi, 1 + qb, we, false⟩) ((((Below.refl _ _).alloc (Nat.le_refl _) _).alloc (by simp) _).alloc (by simp; omega) _) ⟨by show _ ≤ 1 + qw; omega, by show 1 + qw ≤ _; omega, by show _ ≤ 1 + qh; omega, by show 1 + qh ≤ _; omega, by show _ ≤ (1 + ql); omega, by show (1 + ql) ≤ _; omega, by intro h; show _ ≤ (1 + ql); first | omega | exact absurd h Bool.false_ne_true, by show _ ≤ 1 + qd; omega, by show 1 + qd ≤ _; omega, by show _ ≤ 1 + qr; omega, by show 1 + qr ≤ _; omega, by show _ ≤ 1 + qi; omega, by show 1 + qi ≤ _; omega, by show _ ≤ 1 + qb; omega, by show 1 + qb ≤ _; omega⟩ (by show 1 + qw ≤ _; omega) (by show 1 + qh ≤ _; omega))
 ·by_cases hl : 1 + ql < 2
  ·go_enter Tryz.func10, Tryz.ntmps10
   go_wp2
   exact bodyPost_ret (v := .agg (zq5 (1 + qw) (1 + qh) 2 (1 + qd) (1 + qr) (1 + qi) (1 + qb) we true)) (by simp [results, Tryz.results10, go_sem]) rfl (SmallP.mk (c' := ⟨1 + qw, 1 + qh, 2, 1 + qd, 1 + qr, 1 + qi, 1 + qb, we, true⟩) ((((Below.refl _ _).alloc (Nat.le_refl _) _).alloc (by simp) _).alloc (by simp; omega) _) ⟨by show _ ≤ 1 + qw; omega, by show 1 + qw ≤ _; omega, by show _ ≤ 1 + qh; omega, by show 1 + qh ≤ _; omega, by show _ ≤ 2; omega, by show 2 ≤ _; omega, by intro h; show _ ≤ 2; first | omega | exact absurd h Bool.false_ne_true, by show _ ≤ 1 + qd; omega, by show 1 + qd ≤ _; omega, by show _ ≤ 1 + qr; omega, by show 1 + qr ≤ _; omega, by show _ ≤ 1 + qi; omega, by show 1 + qi ≤ _; omega, by show _ ≤ 1 + qb; omega, by show 1 + qb ≤ _; omega⟩ (by show 1 + qw ≤ _; omega) (by show 1 + qh ≤ _; omega))
  ·go_enter Tryz.func10, Tryz.ntmps10
   go_wp2
   exact bodyPost_ret (v := .agg (zq5 (1 + qw) (1 + qh) (1 + ql) (1 + qd) (1 + qr) (1 + qi) (1 + qb) we true)) (by simp [results, Tryz.results10, go_sem]) rfl (SmallP.mk (c' := ⟨1 + qw, 1 + qh, (1 + ql), 1 + qd, 1 + qr, 1 + qi, 1 + qb, we, true⟩) ((((Below.refl _ _).alloc (Nat.le_refl _) _).alloc (by simp) _).alloc (by simp; omega) _) ⟨by show _ ≤ 1 + qw; omega, by show 1 + qw ≤ _; omega, by show _ ≤ 1 + qh; omega, by show 1 + qh ≤ _; omega, by show _ ≤ (1 + ql); omega, by show (1 + ql) ≤ _; omega, by intro h; show _ ≤ (1 + ql); first | omega | exact absurd h Bool.false_ne_true, by show _ ≤ 1 + qd; omega, by show 1 + qd ≤ _; omega, by show _ ≤ 1 + qr; omega, by show 1 + qr ≤ _; omega, by show _ ≤ 1 + qi; omega, by show 1 + qi ≤ _; omega, by show _ ≤ 1 + qb; omega, by show 1 + qb ≤ _; omega⟩ (by show 1 + qw ≤ _; omega) (by show 1 + qh ≤ _; omega))
end Go.Proofs.YtmmegmonmilkcaaGreatDoor.G
namespace Go.Proofs.YtmmegmonmilkcaaGreatDoor.G
open Go.RowKit
theorem small_form (c : Cf) (w : World) : Calls Tryz.prog 10 #[cfv c] w fun e w' => ∃ dw dh dl dd dr di db de da, e = .returned (.agg (zq5 dw dh dl dd dr di db de da)) ∧ Below w.heap.size w w' ∧ Fits ⟨dw, dh, dl, dd, dr, di, db, de, da⟩ ∧ dw ≤ 4 ∧ dh ≤ 4 :=
 (small_any c w).mono fun _ _ ⟨c', he, hb, f, a, b⟩ => ⟨c'.w, c'.h, c'.l, c'.d, c'.r, c'.i, c'.b, c'.we, c'.ca, he, hb, f, a, b⟩
theorem outB_in {lo hi x : Int} (h1 : lo ≤ x) (h2 : x ≤ hi) : outB lo hi x = false := by
 unfold outB
 simp only [Bool.or_eq_false_iff, decide_eq_false_iff_not]
 omega
theorem chk_fits {c : Cf} (f : Fits c) : chk c = 0 := by
 have e1 : t1 c = false := by unfold t1; rw [outB_in f.w1 f.w2, outB_in f.h1 f.h2]; rfl
 have e2 : t2 c = false := by
  unfold t2
  apply outB_in
  ·cases h : c.ca
   ·simp [f.l1]
   ·simp [f.lc h]
  ·exact f.l2
 have e3 : t3 c = false := by unfold t3; rw [outB_in f.d1 f.d2, outB_in f.r1 f.r2, outB_in f.i1 f.i2]; rfl
 have e4 : t4 c = false := by unfold t4; rw [outB_in f.b1 f.b2]
 unfold chk
 rw [e1, e2, e3, e4]
 rfl
def nde (c : Cf) (n : Int) : Int := (IntKind.u64.wrap n).tmod (nod c)
theorem nde_in {c : Cf} (h : chk c = 0) (n : Int) : isN c (nde c n) = true := by
 have f := fits_of h
 have hm := mul_in f.w1 f.w2 f.h1 f.h2
 obtain ⟨q, e, h0, h1⟩ := tm_in n (nod c) (by rw [nod_of h]; omega)
 unfold nde
 rw [e]
 unfold isN
 simp [h0, h1]
theorem node_any (c : Cf) (h : chk c = 0) (n : Int) (w : World) : Calls Tryz.prog 11 #[cfv c, .int .i64 n] w fun e w' => e = .returned (.int .i64 (nde c n)) ∧ Below w.heap.size w w' := by
 have K := rnodes_any c
 have A0 : Hid (At w c (w.alloc (.cells (cfc c) 23))) := At.start w c
 have f := fits_of h
 have hm := mul_in f.w1 f.w2 f.h1 f.h2
 obtain ⟨q, e, h0, h1⟩ := tm_in n (nod c) (by rw [nod_of h]; omega)
 unfold nde
 rw [e]
 rw [← nod_of h] at hm
 generalize nod c = N at *
 obtain ⟨m1, m2⟩ := hm
 have hq : q ≤ 4096 := by omega
 clear f h
 obtain ⟨cw, ch, cl, cd, cr, ci, cb, we, ca⟩ := c
 simp only [cfv, cfc] at *
 go_enter Tryz.func11, Tryz.ntmps11
 go_wp2_with fail
 go_at_call 38
 refine (K _).mono ?_
 rintro e v1 ⟨rfl, hb⟩
 have HA1 : Hid (At w _ v1) := A0.out.trans hb
 clear hb K
 go_wp2
 go_ret
 exact ⟨rfl, HA1.out.below⟩
end Go.Proofs.YtmmegmonmilkcaaGreatDoor.G
namespace Go.Proofs.YtmmegmonmilkcaaGreatDoor.G
open Go.RowKit
theorem ris_any (c : Cf) (n : Int) (w : World) : Calls Tryz.prog 34 #[cfv c, .int .i64 n] w fun e w' => e = .returned (.bool (isN c n)) ∧ Below w.heap.size w w' := by
 have K := rnodes_any c
 have A0 : Hid (At w c (w.alloc (.cells (cfc c) 23))) := At.start w c
 unfold isN
 generalize nod c = M at *
 obtain ⟨cw, ch, cl, cd, cr, ci, cb, we, ca⟩ := c
 simp only [cfv, cfc] at *
 by_cases h0 : 0 ≤ n
 ·by_cases h1 : n < M
  ·rw [show (decide (0 ≤ n) && decide (n < M)) = true by simp [h0, h1]]
   have d1 : decide (n < M) = true := by simp [h1]
   go_enter Tryz.func34, Tryz.ntmps34
   go_wp2_with fail
   go_at_call 38
   refine (K _).mono ?_
   rintro e v1 ⟨rfl, hb⟩
   have HA1 : Hid (At w _ v1) := A0.out.trans hb
   clear hb K
   go_wp2
   go_ret
   exact ⟨rfl, HA1.out.below⟩
  ·rw [show (decide (0 ≤ n) && decide (n < M)) = false by simp [h1]]
   have d1 : decide (n < M) = false := by simp [h1]
   go_enter Tryz.func34, Tryz.ntmps34
   go_wp2_with fail
   go_at_call 38
   refine (K _).mono ?_
   rintro e v1 ⟨rfl, hb⟩
   have HA1 : Hid (At w _ v1) := A0.out.trans hb
   clear hb K
   go_wp2
   go_ret
   exact ⟨rfl, HA1.out.below⟩
 ·rw [show (decide (0 ≤ n) && decide (n < M)) = false by simp [h0]]
  go_enter Tryz.func34, Tryz.ntmps34
  go_wp2
  go_ret
  exact ⟨rfl, A0.out.below⟩
theorem rx_any (c : Cf) (n : Int) (h : isN c n = true) (w : World) : Calls Tryz.prog 114 #[cfv c, .int .i64 n] w fun e w' => e = .returned (.int .i64 (plx c n)) ∧ Below w.heap.size w w' := by
 have A0 : Hid (At w c (w.alloc (.cells (cfc c) 23))) := At.start w c
 obtain ⟨hc, h0, h1⟩ := isN_ok h
 have f := fits_of hc
 have ex : (n.tmod c.w) = plx c n := by rw [Int.tmod_eq_emod_of_nonneg h0]; unfold plx; rw [if_pos h]
 have px := plx_in c n
 have w1 := f.w1
 generalize plx c n = X at *
 clear hc h1 f h
 obtain ⟨cw, ch, cl, cd, cr, ci, cb, we, ca⟩ := c
 simp only [cfv, cfc] at *
 go_enter Tryz.func114, Tryz.ntmps114
 go_wp2
 go_ret
 exact ⟨rfl, A0.out.below⟩
theorem ry_any (c : Cf) (n : Int) (h : isN c n = true) (w : World) : Calls Tryz.prog 115 #[cfv c, .int .i64 n] w fun e w' => e = .returned (.int .i64 (ply c n)) ∧ Below w.heap.size w w' := by
 have A0 : Hid (At w c (w.alloc (.cells (cfc c) 23))) := At.start w c
 obtain ⟨hc, h0, h1⟩ := isN_ok h
 have f := fits_of hc
 have ex : (n.tdiv c.w) = ply c n := by rw [Int.tdiv_eq_ediv_of_nonneg h0]; unfold ply; rw [if_pos h]
 have px := ply_in c n
 have w1 := f.w1
 have hn := (isN_lt h).2
 generalize ply c n = X at *
 clear hc h1 f h
 obtain ⟨cw, ch, cl, cd, cr, ci, cb, we, ca⟩ := c
 simp only [cfv, cfc] at *
 go_enter Tryz.func115, Tryz.ntmps115
 go_wp2
 go_ret
 exact ⟨rfl, A0.out.below⟩
theorem rat_any (c : Cf) (x y : Int) (w : World) : Calls Tryz.prog 116 #[cfv c, .int .i64 x, .int .i64 y] w fun e w' => e = .returned (.tuple #[.int .i64 (atn c x y), .int .i64 (ate c x y)]) ∧ Below w.heap.size w w' := by
 have K := rnodes_any c
 have A0 : Hid (At w c (w.alloc (.cells (cfc c) 23))) := At.start w c
 cases h : inP c x y with
 | true =>
  obtain ⟨hc, h1, h2, h3, h4⟩ := inP_ok h
  obtain ⟨g1, g2, g3, g4⟩ := node_in h
  have f := fits_of hc
  have ea : atn c x y = y * c.w + x := by unfold atn; rw [if_pos h]
  have ee : ate c x y = 0 := by unfold ate; rw [if_pos h]
  have hm := (mul_in f.w1 f.w2 f.h1 f.h2).1
  rw [← nod_of hc] at hm
  rw [ea, ee]
  have hx : x ≤ 63 := by have := f.w2; omega
  have hy : y ≤ 63 := by have := f.h2; omega
  generalize nod c = N at *
  clear ea ee hc f h g2 g4
  obtain ⟨cw, ch, cl, cd, cr, ci, cb, we, ca⟩ := c
  simp only [cfv, cfc] at *
  have d1 : decide (cw ≤ x) = false := by simp; omega
  have d2 : decide (ch ≤ y) = false := by simp; omega
  have d3 : (N == 0) = false := by simp; omega
  have d4 : decide (x < 0) = false := by simp; omega
  have d5 : decide (y < 0) = false := by simp; omega
  obtain ⟨M, hM⟩ : ∃ M : Int, y * cw = M := ⟨_, rfl⟩
  rw [hM] at g1 g3 ⊢
  have HM : Hid (y * cw = M) := hM
  clear hM
  go_enter Tryz.func116, Tryz.ntmps116
  go_wp2_with fail
  go_at_call 38
  refine (K _).mono ?_
  rintro e v1 ⟨rfl, hb⟩
  have A1 := A0.out.trans hb
  clear hb K
  obtain ⟨x0, x1, -, -, -, -, -, -, -⟩ := A1.cells
  have HA1 : Hid (At w _ v1) := A1
  clear A1
  simp only at x0 x1
  have hM := HM.out
  go_wp2
  go_ret2
  exact ⟨rfl, HA1.out.below⟩
 | false =>
  have ea : atn c x y = 0 := by unfold atn; rw [h]; rfl
  have ee : ate c x y = 5 := by unfold ate; rw [h]; rfl
  rw [ea, ee]
  clear ea ee
  by_cases hc : chk c = 0
  ·have f := fits_of hc
   have hm := (mul_in f.w1 f.w2 f.h1 f.h2).1
   rw [← nod_of hc] at hm
   have h' : x < 0 ∨ 0 ≤ x ∧ c.w ≤ x ∨ 0 ≤ x ∧ x < c.w ∧ y < 0 ∨ 0 ≤ x ∧ x < c.w ∧ 0 ≤ y ∧ c.h ≤ y := by
    have : ¬ (0 ≤ x ∧ x < c.w ∧ 0 ≤ y ∧ y < c.h) := fun ⟨a1, a2, a3, a4⟩ => by
     rw [inP_mk hc a1 a2 a3 a4] at h
     cases h
    omega
   generalize nod c = N at *
   clear hc f h
   obtain ⟨cw, ch, cl, cd, cr, ci, cb, we, ca⟩ := c
   simp only [cfv, cfc] at *
   have d3 : (N == 0) = false := by simp; omega
   have H : (decide (x < 0) = true) ∨ (decide (x < 0) = false ∧ decide (cw ≤ x) = true) ∨ (decide (x < 0) = false ∧ decide (cw ≤ x) = false ∧ decide (y < 0) = true) ∨ (decide (x < 0) = false ∧ decide (cw ≤ x) = false ∧ decide (y < 0) = false ∧ decide (ch ≤ y) = true) := by
    simp only [decide_eq_true_eq, decide_eq_false_iff_not]
    omega
   clear h'
   rcases H with d4 | ⟨d4, d1⟩ | ⟨d4, d1, d5⟩ | ⟨d4, d1, d5, d2⟩
   all_goals
    go_enter Tryz.func116, Tryz.ntmps116
    go_wp2_with fail
    go_at_call 38
    refine (K _).mono ?_
    rintro e v1 ⟨rfl, hb⟩
    have A1 := A0.out.trans hb
    clear hb K
    obtain ⟨x0, x1, -, -, -, -, -, -, -⟩ := A1.cells
    have HA1 : Hid (At w _ v1) := A1
    clear A1
    simp only at x0 x1
    go_wp2
    go_ret2
    exact ⟨rfl, HA1.out.below⟩
  ·rw [nod_not hc] at K
   clear hc h
   obtain ⟨cw, ch, cl, cd, cr, ci, cb, we, ca⟩ := c
   simp only [cfv, cfc] at *
   go_enter Tryz.func116, Tryz.ntmps116
   go_wp2_with fail
   go_at_call 38
   refine (K _).mono ?_
   rintro e v1 ⟨rfl, hb⟩
   have HA1 : Hid (At w _ v1) := A0.out.trans hb
   clear hb K
   go_wp2
   go_ret2
   exact ⟨rfl, HA1.out.below⟩
end Go.Proofs.YtmmegmonmilkcaaGreatDoor.G
