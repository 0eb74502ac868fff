/-
  The walks of config.Check, Nodes, Class, and of the document's own.
-/
import Derived.Test.YtaohimmmhpmgdaaDoorCfg
namespace Go.Proofs.YtaohimmmhpmgdaaDoor
open Go.RowKit

/-- Block number w.heap.size holds the config; what lay below it lies. -/
def At (w : World) (c : Cf) (v : World) : Prop := Below (w.heap.size + 1) (w.alloc (.cells (cfc c) 29)) v
theorem At.start (w : World) (c : Cf) : At w c (w.alloc (.cells (cfc c) 29)) := Below.refl _ _
theorem At.cell {w v : World} {c : Cf} (h : At w c v) (j : Nat) : v.cell? ⟨w.heap.size, j, none⟩ = (cfc c)[j]? := by
  rw [Below.cell h (p := ⟨w.heap.size, j, none⟩) (by simp), World.cell?_alloc_at _ _ _ _ rfl]
theorem At.size {w v : World} {c : Cf} (h : At w c v) : w.heap.size + 1 ≤ v.heap.size := by
  have := Below.size h
  simpa using this
theorem At.trans {w v v' : World} {c : Cf} (h : At w c v) (hb : Below v.heap.size v v') : At w c v' := Below.trans h (hb.mono h.size)
theorem At.alloc {w v : World} {c : Cf} (h : At w c v) (o : Obj) : At w c (v.alloc o) := Below.alloc h h.size o
theorem At.below {w v : World} {c : Cf} (h : At w c v) : Below w.heap.size w v :=
  ((Below.refl _ _).alloc (Nat.le_refl _) _).trans (Below.mono h (by omega))
/-- All nine. -/
theorem At.cells {w v : World} {c : Cf} (h : At w c v) :
    v.cell? ⟨w.heap.size, 0, none⟩ = some (.int .i64 c.w) ∧ v.cell? ⟨w.heap.size, 1, none⟩ = some (.int .i64 c.h) ∧ v.cell? ⟨w.heap.size, 2, none⟩ = some (.int .i64 c.l) ∧
    v.cell? ⟨w.heap.size, 3, none⟩ = some (.int .i64 c.d) ∧ v.cell? ⟨w.heap.size, 4, none⟩ = some (.int .i64 c.r) ∧ v.cell? ⟨w.heap.size, 5, none⟩ = some (.int .i64 c.i) ∧
    v.cell? ⟨w.heap.size, 6, none⟩ = some (.int .i64 c.b) ∧ v.cell? ⟨w.heap.size, 7, none⟩ = some (.bool c.we) ∧ v.cell? ⟨w.heap.size, 8, none⟩ = some (.bool c.ca) :=
  ⟨h.cell 0, h.cell 1, h.cell 2, h.cell 3, h.cell 4, h.cell 5, h.cell 6, h.cell 7, h.cell 8⟩

def t1 (c : Cf) : Bool := outB 1 64 c.w || outB 1 64 c.h
def t2 (c : Cf) : Bool := outB (if c.ca then 2 else 1) 8 c.l
def t3 (c : Cf) : Bool := outB 1 64 c.d || outB 1 64 c.r || outB 1 64 c.i
def t4 (c : Cf) : Bool := outB 1 16 c.b
/-- What Check tells. -/
def chk (c : Cf) : Int := if t1 c = true then 4 else if t2 c = true then 10 else if t3 c = true then 10 else if t4 c = true then 10 else 0

set_option maxHeartbeats 1000000 in
theorem check_any (c : Cf) (w : World) : Calls Tryd.prog 42 #[cfv c] w fun e w' => e = .returned (.int .i64 (chk c)) ∧ Below w.heap.size w w' := by
  have K1 := within2 1 64 c.w c.h
  have K2 := within1 (if c.ca then 2 else 1) 8 c.l
  have K3 := within3 1 64 c.d c.r c.i
  have K4 := within1 1 16 c.b
  unfold chk
  change ∀ b cc w, _ → _ → _ → Calls _ _ _ _ (fun e w' => e = .returned (.bool (!(t1 c))) ∧ _) at K1
  change ∀ b cc w, _ → _ → Calls _ _ _ _ (fun e w' => e = .returned (.bool (!(t2 c))) ∧ _) at K2
  change ∀ b cc w, _ → _ → _ → _ → Calls _ _ _ _ (fun e w' => e = .returned (.bool (!(t3 c))) ∧ _) at K3
  change ∀ b cc w, _ → _ → Calls _ _ _ _ (fun e w' => e = .returned (.bool (!(t4 c))) ∧ _) at K4
  generalize t1 c = T1 at *
  generalize t2 c = T2 at *
  generalize t3 c = T3 at *
  generalize t4 c = T4 at *
  have A0 : Hid (At w c (w.alloc (.cells (cfc c) 29))) := At.start w c
  have sz : Hid ((w.alloc (.cells (cfc c) 29)).heap.size = w.heap.size + 1) := by simp [Hid]
  obtain ⟨cw, ch, cl, cd, cr, ci, cb, we, ca⟩ := c
  simp only [cfv, cfc] at *
  cases ca
  all_goals
    simp only [if_true, if_false, Bool.false_eq_true] at K2
    go_enter Tryd.func42, Tryd.ntmps42
    go_wp2_with fail
    go_at_call 46
    refine (K1 _ _ _ (by simp) (by go_simp) (by go_simp)).mono ?_
    rintro e v1 ⟨rfl, hb⟩
    have A1 := (A0.out.alloc _).trans hb
    clear hb K1
    obtain ⟨-, -, x2, x3, x4, x5, x6, -, -⟩ := A1.cells
    have Z1 : w.heap.size < v1.heap.size := by have := A1.size; omega
    have HA1 : Hid (At w _ v1) := A1
    clear A1
    cases T1 with
    | true =>
      go_wp2
      go_ret
      exact ⟨rfl, HA1.out.below⟩
    | false =>
      go_wp2_with fail
      go_at_call 46
      refine (K2 _ _ _ (by simp) (by go_simp)).mono ?_
      rintro e v2 ⟨rfl, hb⟩
      clear x2 x3 x4 x5 x6 Z1 K2
      have A2 := (HA1.out.alloc _).trans hb
      clear hb
      obtain ⟨-, -, -, x3, x4, x5, x6, -, -⟩ := A2.cells
      have Z2 : w.heap.size < v2.heap.size := by have := A2.size; omega
      have HA2 : Hid (At w _ v2) := A2
      clear A2 HA1
      cases T2 with
      | true =>
        go_wp2
        go_ret
        exact ⟨rfl, HA2.out.below⟩
      | false =>
        go_wp2_with fail
        go_at_call 46
        refine (K3 _ _ _ (by simp) (by go_simp) (by go_simp) (by go_simp)).mono ?_
        rintro e v3 ⟨rfl, hb⟩
        clear x3 x4 x5 x6 Z2 K3
        have A3 := (HA2.out.alloc _).trans hb
        clear hb
        obtain ⟨-, -, -, -, -, -, x6, -, -⟩ := A3.cells
        have Z3 : w.heap.size < v3.heap.size := by have := A3.size; omega
        have HA3 : Hid (At w _ v3) := A3
        clear A3 HA2
        cases T3 with
        | true =>
          go_wp2
          go_ret
          exact ⟨rfl, HA3.out.below⟩
        | false =>
          go_wp2_with fail
          go_at_call 46
          refine (K4 _ _ _ (by simp) (by go_simp)).mono ?_
          rintro e v4 ⟨rfl, hb⟩
          clear x6 Z3 K4
          have A4 := (HA3.out.alloc _).trans hb
          have HA4 : Hid (At w _ v4) := A4
          clear A4 HA3 hb
          cases T4 with
          | true =>
            go_wp2
            go_ret
            exact ⟨rfl, HA4.out.below⟩
          | false =>
            go_wp2
            go_ret
            exact ⟨rfl, HA4.out.below⟩

/-- The document's 'within'. -/
theorem rwithin_any (n lo hi : Int) (w : World) : Calls Tryd.prog 44 #[.int .i64 n, .int .i64 lo, .int .i64 hi] w fun e w' => e = .returned (.bool (!(outB lo hi n))) ∧ w = w' := by
  by_cases h1 : lo ≤ n
  · have h1' : ¬ n < lo := by omega
    by_cases h2 : n ≤ hi
    · have h2' : ¬ hi < n := by omega
      have e : outB lo hi n = false := by unfold outB; simp [h1', h2']
      rw [e]
      clear e
      go_enter Tryd.func44, Tryd.ntmps44
      go_wp2
      go_ret
      exact ⟨rfl, rfl⟩
    · have h2' : hi < n := by omega
      have e : outB lo hi n = true := by unfold outB; simp [h2']
      rw [e]
      clear e
      go_enter Tryd.func44, Tryd.ntmps44
      go_wp2
      go_ret
      exact ⟨rfl, rfl⟩
  · have h1' : n < lo := by omega
    have e : outB lo hi n = true := by unfold outB; simp [h1']
    rw [e]
    clear e
    go_enter Tryd.func44, Tryd.ntmps44
    go_wp2
    go_ret
    exact ⟨rfl, rfl⟩
end Go.Proofs.YtaohimmmhpmgdaaDoor
