/-
  The walk of RouterNil. (Written by gen_rnil.py.)
-/
import Derived.Test.YtmmegmonmilkcaaGreatDoorRtLives
import Derived.Test.YtmmegmonmilkcaaGreatDoorGrid
namespace Go.Proofs.YtmmegmonmilkcaaGreatDoor
open Go.RowKit

theorem new_idle (n d : Nat) (node : Int) : idleRt (newRt n d node) = true := by
  unfold idleRt
  rw [List.all_eq_true]
  intro K hK
  obtain rfl := List.eq_of_mem_replicate (show K ∈ List.replicate (5 * n) (newK (d : Int)) from hK)
  rfl
theorem isN_ok {c : G.Cf} {n : Int} (h : G.isN c n = true) : G.chk c = 0 := by
  by_cases e : G.chk c = 0
  · exact e
  · exfalso
    have h0 : G.nod c = 0 := by unfold G.nod; rw [if_neg e]
    unfold G.isN at h
    rw [h0] at h
    simp only [Bool.and_eq_true, decide_eq_true_eq] at h
    omega
/-- Nothing moved, compared with nothing moved. -/
theorem run_eq_moved (w : World) : (binOp .eql 63 (.agg #[.int .i64 0, .int .i64 0, .int .u64 0, .bool false, .bool false, .int .i64 0, .int .i64 0]) (.agg #[.int .i64 0, .int .i64 0, .int .u64 0, .bool false, .bool false, .int .i64 0, .int .i64 0])).run Tryz.prog w = .ok (.bool true) w := by kernel_rfl
theorem rnil_cells {v : World} {A B kb : Nat} {kd p l n s cw ch cl cd cr ci cb : Int} {cc we ca : Bool} {hs my : Value} {x : ByteArray} (p' : Bk v B #[.int .i64 kd, .int .i64 p, .int .i64 l, .int .i64 n, .int .i64 s, .bool cc, hs, .string x, my] 42) (k : Bk v kb #[.int .i64 0, .int .i64 0, .int .u64 0, .bool false, .bool false, .int .i64 0, .int .i64 0] 63) (q : Bk v A #[.int .i64 cw, .int .i64 ch, .int .i64 cl, .int .i64 cd, .int .i64 cr, .int .i64 ci, .int .i64 cb, .bool we, .bool ca] 23) : v.cell? ⟨B, 1, none⟩ = some (.int .i64 p) ∧ v.cell? ⟨B, 2, none⟩ = some (.int .i64 l) ∧ v.cell? ⟨B, 3, none⟩ = some (.int .i64 n) ∧ v.cell? ⟨kb, 0, none⟩ = some (.int .i64 0) ∧ v.cell? ⟨kb, 1, none⟩ = some (.int .i64 0) ∧ v.cell? ⟨kb, 2, none⟩ = some (.int .u64 0) ∧ v.cell? ⟨kb, 3, none⟩ = some (.bool false) ∧ v.cell? ⟨kb, 4, none⟩ = some (.bool false) ∧ v.cell? ⟨kb, 5, none⟩ = some (.int .i64 0) ∧ v.cell? ⟨kb, 6, none⟩ = some (.int .i64 0) ∧ v.cell? ⟨A, 0, none⟩ = some (.int .i64 cw) ∧ v.cell? ⟨A, 1, none⟩ = some (.int .i64 ch) ∧ v.cell? ⟨A, 2, none⟩ = some (.int .i64 cl) ∧ v.cell? ⟨A, 3, none⟩ = some (.int .i64 cd) ∧ v.cell? ⟨A, 4, none⟩ = some (.int .i64 cr) ∧ v.cell? ⟨A, 5, none⟩ = some (.int .i64 ci) ∧ v.cell? ⟨A, 6, none⟩ = some (.int .i64 cb) ∧ v.cell? ⟨A, 7, none⟩ = some (.bool we) ∧ v.cell? ⟨A, 8, none⟩ = some (.bool ca) :=
  ⟨(p'.cell 1).trans rfl, (p'.cell 2).trans rfl, (p'.cell 3).trans rfl, (k.cell 0).trans rfl, (k.cell 1).trans rfl, (k.cell 2).trans rfl, (k.cell 3).trans rfl, (k.cell 4).trans rfl, (k.cell 5).trans rfl, (k.cell 6).trans rfl, (q.cell 0).trans rfl, (q.cell 1).trans rfl, (q.cell 2).trans rfl, (q.cell 3).trans rfl, (q.cell 4).trans rfl, (q.cell 5).trans rfl, (q.cell 6).trans rfl, (q.cell 7).trans rfl, (q.cell 8).trans rfl⟩
theorem rcfg_cells {v : World} {A : Nat} {cw ch cl cd cr ci cb : Int} {we ca : Bool} (q : Bk v A #[.int .i64 cw, .int .i64 ch, .int .i64 cl, .int .i64 cd, .int .i64 cr, .int .i64 ci, .int .i64 cb, .bool we, .bool ca] 23) : v.cell? ⟨A, 0, none⟩ = some (.int .i64 cw) ∧ v.cell? ⟨A, 1, none⟩ = some (.int .i64 ch) ∧ v.cell? ⟨A, 2, none⟩ = some (.int .i64 cl) ∧ v.cell? ⟨A, 3, none⟩ = some (.int .i64 cd) ∧ v.cell? ⟨A, 4, none⟩ = some (.int .i64 cr) ∧ v.cell? ⟨A, 5, none⟩ = some (.int .i64 ci) ∧ v.cell? ⟨A, 6, none⟩ = some (.int .i64 cb) ∧ v.cell? ⟨A, 7, none⟩ = some (.bool we) ∧ v.cell? ⟨A, 8, none⟩ = some (.bool ca) :=
  ⟨(q.cell 0).trans rfl, (q.cell 1).trans rfl, (q.cell 2).trans rfl, (q.cell 3).trans rfl, (q.cell 4).trans rfl, (q.cell 5).trans rfl, (q.cell 6).trans rfl, (q.cell 7).trans rfl, (q.cell 8).trans rfl⟩
set_option maxRecDepth 100000 in
set_option maxHeartbeats 8000000 in
theorem rnil_law (c : G.Cf) (node kd p l n s : Int) (cc : Bool) (hs my : Value) (x : ByteArray) (w : World) (hT : G.Tabs w) (hS : G.Steps w) : Calls Tryz.prog 7 #[G.cfv c, .int .i64 node, .agg #[.int .i64 kd, .int .i64 p, .int .i64 l, .int .i64 n, .int .i64 s, .bool cc, hs, .string x, my]] w fun e w' => e = .returned (.bool true) ∧ Below w.heap.size w w' := by
  have IC := fun v => G.ris_any c node v
  have Q0 : Hid (Bk ((w.alloc (.cells (G.cfc c) 23)).alloc (.cells #[.int .i64 kd, .int .i64 p, .int .i64 l, .int .i64 n, .int .i64 s, .bool cc, hs, .string x, my] 42)) w.heap.size (G.cfc c) 23) := (show Hid (Bk (w.alloc (.cells (G.cfc c) 23)) w.heap.size (G.cfc c) 23) from Bk.new _ _ _).out.alloc _
  have P0 : Hid (Bk ((w.alloc (.cells (G.cfc c) 23)).alloc (.cells #[.int .i64 kd, .int .i64 p, .int .i64 l, .int .i64 n, .int .i64 s, .bool cc, hs, .string x, my] 42)) (w.heap.size + 1) #[.int .i64 kd, .int .i64 p, .int .i64 l, .int .i64 n, .int .i64 s, .bool cc, hs, .string x, my] 42) := by
    have := Bk.new (w.alloc (.cells (G.cfc c) 23)) #[.int .i64 kd, .int .i64 p, .int .i64 l, .int .i64 n, .int .i64 s, .bool cc, hs, .string x, my] 42
    rw [show (w.alloc (.cells (G.cfc c) 23)).heap.size = w.heap.size + 1 by simp] at this
    exact this
  have B0 : Hid (Below w.heap.size w ((w.alloc (.cells (G.cfc c) 23)).alloc (.cells #[.int .i64 kd, .int .i64 p, .int .i64 l, .int .i64 n, .int .i64 s, .bool cc, hs, .string x, my] 42))) := ((Below.refl _ _).alloc (Nat.le_refl _) _).alloc (by simp) _
  have LV := lives_any _ (hT.next B0.out) (hS.next B0.out)
  cases hN : G.isN c node with
  | true =>
    rw [hN] at IC
    have NC : Hid (∀ v, Calls Tryz.prog 12 #[G.cfv c, .int .i64 node] v fun e w' => ∃ b : Nat, e = .returned (.pointer (some ⟨b, 0, none⟩)) ∧ (∀ u, Below w'.heap.size w' u → Calls Tryz.prog 32 #[.pointer (some ⟨b, 0, none⟩)] u fun e u' => e = .returned (.bool true) ∧ Below u.heap.size u u') ∧ Below v.heap.size v w') := show _ from fun v => (router_new c (isN_ok hN) node hN v).mono fun e w' h => by
      obtain ⟨b, F, rfl, h1, h2, h3⟩ := h
      refine ⟨b, rfl, fun u hu => ?_, h3⟩
      have := router_idle (h1.next hu)
      rw [new_idle] at this
      exact this
    clear hN hT hS
    obtain ⟨cw, ch, cl, cd, cr, ci, cb, we, ca⟩ := c
    simp only [G.cfv, G.cfc] at *
    go_enter Tryz.func7, Tryz.ntmps7
    go_upto_region 1 with fail
    generalize (w.alloc (.cells #[.int .i64 cw, .int .i64 ch, .int .i64 cl, .int .i64 cd, .int .i64 cr, .int .i64 ci, .int .i64 cb, .bool we, .bool ca] 23)).alloc (.cells #[.int .i64 kd, .int .i64 p, .int .i64 l, .int .i64 n, .int .i64 s, .bool cc, hs, .string x, my] 42) = v0 at *
    obtain ⟨A, hA⟩ : ∃ A, w.heap.size = A := ⟨_, rfl⟩
    have HAW : Hid (w.heap.size = A) := hA
    rw [hA] at P0 Q0 B0 ⊢
    clear hA
    go_wp2_with fail
    go_at_call 9
    with_reducible refine LV.mono ?_
    rintro e w1 ⟨rfl, b1⟩
    have Q1 : Hid (Bk w1 A #[.int .i64 cw, .int .i64 ch, .int .i64 cl, .int .i64 cd, .int .i64 cr, .int .i64 ci, .int .i64 cb, .bool we, .bool ca] 23) := Q0.out.next b1
    have P1 : Hid (Bk w1 (A + 1) #[.int .i64 kd, .int .i64 p, .int .i64 l, .int .i64 n, .int .i64 s, .bool cc, hs, .string x, my] 42) := P0.out.next b1
    have B1 : Hid (Below A w w1) := B0.out.trans (b1.mono (Nat.le_of_lt Q0.out.lt))
    clear LV b1 P0 B0 Q0
    obtain ⟨k0, k1, k2, k3, k4, k5, k6, k7, k8⟩ := rcfg_cells Q1.out
    go_wp2_with fail
    go_at_call 12
    with_reducible refine (NC.out _).mono ?_
    rintro e w2 ⟨b, rfl, ID, b2⟩
    have Q2 : Hid (Bk w2 A #[.int .i64 cw, .int .i64 ch, .int .i64 cl, .int .i64 cd, .int .i64 cr, .int .i64 ci, .int .i64 cb, .bool we, .bool ca] 23) := Q1.out.next b2
    have B2 : Hid (Below A w w2) := B1.out.trans (b2.mono (Nat.le_of_lt Q1.out.lt))
    clear NC b2 P1 B1 Q1 k0 k1 k2 k3 k4 k5 k6 k7 k8
    obtain ⟨k0, k1, k2, k3, k4, k5, k6, k7, k8⟩ := rcfg_cells Q2.out
    go_wp2_with fail
    go_at_call 34
    with_reducible refine (IC _).mono ?_
    rintro e w3 ⟨rfl, b3⟩
    have B3 : Hid (Below A w w3) := B2.out.trans (b3.mono (Nat.le_of_lt Q2.out.lt))
    have Z3 : Hid (A ≤ w3.heap.size) := show A ≤ _ from Nat.le_trans (Nat.le_of_lt Q2.out.lt) b3.size
    have J3 := ID w3 b3
    clear IC ID b3 B2 Q2 k0 k1 k2 k3 k4 k5 k6 k7 k8
    go_wp2_with fail
    go_at_call 32
    with_reducible refine J3.mono ?_
    rintro e w4 ⟨rfl, b4⟩
    have B4 : Hid (Below A w w4) := B3.out.trans (b4.mono Z3.out)
    clear J3 b4
    go_wp2
    go_ret
    exact ⟨rfl, by rw [HAW.out]; exact B4.out⟩
  | false =>
    rw [hN] at IC
    have NC := fun v => router_none c node (Or.inr hN) v
    clear hN hT hS
    obtain ⟨cw, ch, cl, cd, cr, ci, cb, we, ca⟩ := c
    simp only [G.cfv, G.cfc] at *
    go_enter Tryz.func7, Tryz.ntmps7
    go_upto_region 1 with fail
    generalize (w.alloc (.cells #[.int .i64 cw, .int .i64 ch, .int .i64 cl, .int .i64 cd, .int .i64 cr, .int .i64 ci, .int .i64 cb, .bool we, .bool ca] 23)).alloc (.cells #[.int .i64 kd, .int .i64 p, .int .i64 l, .int .i64 n, .int .i64 s, .bool cc, hs, .string x, my] 42) = v0 at *
    obtain ⟨A, hA⟩ : ∃ A, w.heap.size = A := ⟨_, rfl⟩
    have HAW : Hid (w.heap.size = A) := hA
    rw [hA] at P0 Q0 B0 ⊢
    clear hA
    go_wp2_with fail
    go_at_call 9
    with_reducible refine LV.mono ?_
    rintro e w1 ⟨rfl, b1⟩
    have Q1 : Hid (Bk w1 A #[.int .i64 cw, .int .i64 ch, .int .i64 cl, .int .i64 cd, .int .i64 cr, .int .i64 ci, .int .i64 cb, .bool we, .bool ca] 23) := Q0.out.next b1
    have P1 : Hid (Bk w1 (A + 1) #[.int .i64 kd, .int .i64 p, .int .i64 l, .int .i64 n, .int .i64 s, .bool cc, hs, .string x, my] 42) := P0.out.next b1
    have B1 : Hid (Below A w w1) := B0.out.trans (b1.mono (Nat.le_of_lt Q0.out.lt))
    clear LV b1 P0 B0 Q0
    obtain ⟨k0, k1, k2, k3, k4, k5, k6, k7, k8⟩ := rcfg_cells Q1.out
    go_wp2_with fail
    go_at_call 12
    with_reducible refine (NC _).mono ?_
    rintro e w2 ⟨rfl, b2⟩
    have Q2 : Hid (Bk w2 A #[.int .i64 cw, .int .i64 ch, .int .i64 cl, .int .i64 cd, .int .i64 cr, .int .i64 ci, .int .i64 cb, .bool we, .bool ca] 23) := Q1.out.next b2
    have P2 : Hid (Bk w2 (A + 1) #[.int .i64 kd, .int .i64 p, .int .i64 l, .int .i64 n, .int .i64 s, .bool cc, hs, .string x, my] 42) := P1.out.next b2
    have B2 : Hid (Below A w w2) := B1.out.trans (b2.mono (Nat.le_of_lt Q1.out.lt))
    clear NC b2 P1 B1 Q1 k0 k1 k2 k3 k4 k5 k6 k7 k8
    have p1 : w2.cell? ⟨A + 1, 1, none⟩ = some (.int .i64 p) := P2.out.cell 1
    go_upto_region 7 with (go_at_call 24; with_reducible refine (rnil_move p _ _ _).mono ?_; rintro e w3 ⟨rfl, b3⟩)
    clear p1
    have B3 : Hid (Below A w (w3.alloc (.cells #[.int .i64 0, .int .i64 0, .int .u64 0, .bool false, .bool false, .int .i64 0, .int .i64 0] 63))) := (B2.out.trans (b3.mono (Nat.le_of_lt Q2.out.lt))).alloc (Nat.le_trans (Nat.le_of_lt Q2.out.lt) b3.size) _
    have P3 : Hid (Bk (w3.alloc (.cells #[.int .i64 0, .int .i64 0, .int .u64 0, .bool false, .bool false, .int .i64 0, .int .i64 0] 63)) (A + 1) #[.int .i64 kd, .int .i64 p, .int .i64 l, .int .i64 n, .int .i64 s, .bool cc, hs, .string x, my] 42) := (P2.out.next b3).alloc _
    have Q3 : Hid (Bk (w3.alloc (.cells #[.int .i64 0, .int .i64 0, .int .u64 0, .bool false, .bool false, .int .i64 0, .int .i64 0] 63)) A #[.int .i64 cw, .int .i64 ch, .int .i64 cl, .int .i64 cd, .int .i64 cr, .int .i64 ci, .int .i64 cb, .bool we, .bool ca] 23) := (Q2.out.next b3).alloc _
    have K3 : Hid (Bk (w3.alloc (.cells #[.int .i64 0, .int .i64 0, .int .u64 0, .bool false, .bool false, .int .i64 0, .int .i64 0] 63)) w3.heap.size #[.int .i64 0, .int .i64 0, .int .u64 0, .bool false, .bool false, .int .i64 0, .int .i64 0] 63) := Bk.new _ _ _
    clear P2 Q2 B2 b3
    generalize w3.alloc (.cells #[.int .i64 0, .int .i64 0, .int .u64 0, .bool false, .bool false, .int .i64 0, .int .i64 0] 63) = v3 at *
    generalize w3.heap.size = kb at *
    have p1 : v3.cell? ⟨A + 1, 1, none⟩ = some (.int .i64 p) := P3.out.cell 1
    have p2 : v3.cell? ⟨A + 1, 2, none⟩ = some (.int .i64 l) := P3.out.cell 2
    generalize hB : A + 1 = B at *
    clear hB
    go_upto_region 8 with (go_at_call 27; with_reducible refine (rnil_owner p l _).mono ?_; rintro e w4 ⟨rfl, b4⟩)
    clear p1 p2
    have P4 : Hid (Bk w4 B #[.int .i64 kd, .int .i64 p, .int .i64 l, .int .i64 n, .int .i64 s, .bool cc, hs, .string x, my] 42) := P3.out.next b4
    have Q4 : Hid (Bk w4 A #[.int .i64 cw, .int .i64 ch, .int .i64 cl, .int .i64 cd, .int .i64 cr, .int .i64 ci, .int .i64 cb, .bool we, .bool ca] 23) := Q3.out.next b4
    have K4 : Hid (Bk w4 kb #[.int .i64 0, .int .i64 0, .int .u64 0, .bool false, .bool false, .int .i64 0, .int .i64 0] 63) := K3.out.next b4
    have B4 : Hid (Below A w w4) := B3.out.trans (b4.mono (Nat.le_of_lt Q3.out.lt))
    clear b4 P3 Q3 K3 B3
    have me := fun v => run_eq_moved v
    obtain ⟨k0, k1, k2, k3, k4, k5, k6, k7, k8⟩ := rcfg_cells Q4.out
    go_wp2_with fail
    go_at_call 34
    with_reducible refine (IC _).mono ?_
    rintro e w5 ⟨rfl, b5⟩
    have P5 : Hid (Bk w5 B #[.int .i64 kd, .int .i64 p, .int .i64 l, .int .i64 n, .int .i64 s, .bool cc, hs, .string x, my] 42) := P4.out.next b5
    have Q5 : Hid (Bk w5 A #[.int .i64 cw, .int .i64 ch, .int .i64 cl, .int .i64 cd, .int .i64 cr, .int .i64 ci, .int .i64 cb, .bool we, .bool ca] 23) := Q4.out.next b5
    have K5 : Hid (Bk w5 kb #[.int .i64 0, .int .i64 0, .int .u64 0, .bool false, .bool false, .int .i64 0, .int .i64 0] 63) := K4.out.next b5
    have B5 : Hid (Below A w w5) := B4.out.trans (b5.mono (Nat.le_of_lt Q4.out.lt))
    clear P4 Q4 K4 B4 b5 k0 k1 k2 k3 k4 k5 k6 k7 k8
    have m0 : w5.cell? ⟨kb, 0, none⟩ = some (.int .i64 0) := K5.out.cell 0
    have m1 : w5.cell? ⟨kb, 1, none⟩ = some (.int .i64 0) := K5.out.cell 1
    have m2 : w5.cell? ⟨kb, 2, none⟩ = some (.int .u64 0) := K5.out.cell 2
    have m3 : w5.cell? ⟨kb, 3, none⟩ = some (.bool false) := K5.out.cell 3
    have m4 : w5.cell? ⟨kb, 4, none⟩ = some (.bool false) := K5.out.cell 4
    have m5 : w5.cell? ⟨kb, 5, none⟩ = some (.int .i64 0) := K5.out.cell 5
    have m6 : w5.cell? ⟨kb, 6, none⟩ = some (.int .i64 0) := K5.out.cell 6
    have p1 : w5.cell? ⟨B, 1, none⟩ = some (.int .i64 p) := P5.out.cell 1
    have p2 : w5.cell? ⟨B, 2, none⟩ = some (.int .i64 l) := P5.out.cell 2
    have p3 : w5.cell? ⟨B, 3, none⟩ = some (.int .i64 n) := P5.out.cell 3
    go_wp2_with fail
    go_at_call 18
    with_reducible refine (rnil_put p l 1 _).mono ?_
    rintro e w6 ⟨rfl, b6⟩
    have P6 : Hid (Bk w6 B #[.int .i64 kd, .int .i64 p, .int .i64 l, .int .i64 n, .int .i64 s, .bool cc, hs, .string x, my] 42) := P5.out.next b6
    have Q6 : Hid (Bk w6 A #[.int .i64 cw, .int .i64 ch, .int .i64 cl, .int .i64 cd, .int .i64 cr, .int .i64 ci, .int .i64 cb, .bool we, .bool ca] 23) := Q5.out.next b6
    have K6 : Hid (Bk w6 kb #[.int .i64 0, .int .i64 0, .int .u64 0, .bool false, .bool false, .int .i64 0, .int .i64 0] 63) := K5.out.next b6
    have B6 : Hid (Below A w w6) := B5.out.trans (b6.mono (Nat.le_of_lt Q5.out.lt))
    clear P5 Q5 K5 B5 b6 m0 m1 m2 m3 m4 m5 m6 me p1 p2 p3
    have p1 : w6.cell? ⟨B, 1, none⟩ = some (.int .i64 p) := P6.out.cell 1
    have p2 : w6.cell? ⟨B, 2, none⟩ = some (.int .i64 l) := P6.out.cell 2
    have p3 : w6.cell? ⟨B, 3, none⟩ = some (.int .i64 n) := P6.out.cell 3
    go_wp2_with fail
    go_at_call 20
    with_reducible refine (rnil_find p l n _).mono ?_
    rintro e w7 ⟨rfl, b7⟩
    have P7 : Hid (Bk w7 B #[.int .i64 kd, .int .i64 p, .int .i64 l, .int .i64 n, .int .i64 s, .bool cc, hs, .string x, my] 42) := P6.out.next b7
    have Q7 : Hid (Bk w7 A #[.int .i64 cw, .int .i64 ch, .int .i64 cl, .int .i64 cd, .int .i64 cr, .int .i64 ci, .int .i64 cb, .bool we, .bool ca] 23) := Q6.out.next b7
    have K7 : Hid (Bk w7 kb #[.int .i64 0, .int .i64 0, .int .u64 0, .bool false, .bool false, .int .i64 0, .int .i64 0] 63) := K6.out.next b7
    have B7 : Hid (Below A w w7) := B6.out.trans (b7.mono (Nat.le_of_lt Q6.out.lt))
    clear P6 Q6 K6 B6 b7 p1 p2 p3
    have p1 : w7.cell? ⟨B, 1, none⟩ = some (.int .i64 p) := P7.out.cell 1
    have p2 : w7.cell? ⟨B, 2, none⟩ = some (.int .i64 l) := P7.out.cell 2
    have p3 : w7.cell? ⟨B, 3, none⟩ = some (.int .i64 n) := P7.out.cell 3
    go_wp2_with fail
    go_at_call 22
    with_reducible refine (rnil_give p l _).mono ?_
    rintro e w8 ⟨rfl, b8⟩
    have P8 : Hid (Bk w8 B #[.int .i64 kd, .int .i64 p, .int .i64 l, .int .i64 n, .int .i64 s, .bool cc, hs, .string x, my] 42) := P7.out.next b8
    have Q8 : Hid (Bk w8 A #[.int .i64 cw, .int .i64 ch, .int .i64 cl, .int .i64 cd, .int .i64 cr, .int .i64 ci, .int .i64 cb, .bool we, .bool ca] 23) := Q7.out.next b8
    have K8 : Hid (Bk w8 kb #[.int .i64 0, .int .i64 0, .int .u64 0, .bool false, .bool false, .int .i64 0, .int .i64 0] 63) := K7.out.next b8
    have B8 : Hid (Below A w w8) := B7.out.trans (b8.mono (Nat.le_of_lt Q7.out.lt))
    clear P7 Q7 K7 B7 b8 p1 p2 p3
    go_wp2_with fail
    go_at_call 35
    with_reducible refine (rnil_len 0 0 _).mono ?_
    rintro e w9 ⟨rfl, b9⟩
    have P9 : Hid (Bk w9 B #[.int .i64 kd, .int .i64 p, .int .i64 l, .int .i64 n, .int .i64 s, .bool cc, hs, .string x, my] 42) := P8.out.next b9
    have Q9 : Hid (Bk w9 A #[.int .i64 cw, .int .i64 ch, .int .i64 cl, .int .i64 cd, .int .i64 cr, .int .i64 ci, .int .i64 cb, .bool we, .bool ca] 23) := Q8.out.next b9
    have K9 : Hid (Bk w9 kb #[.int .i64 0, .int .i64 0, .int .u64 0, .bool false, .bool false, .int .i64 0, .int .i64 0] 63) := K8.out.next b9
    have B9 : Hid (Below A w w9) := B8.out.trans (b9.mono (Nat.le_of_lt Q8.out.lt))
    clear P8 Q8 K8 B8 b9
    go_wp2_with fail
    go_at_call 36
    with_reducible refine (rnil_room 0 0 _).mono ?_
    rintro e w10 ⟨rfl, b10⟩
    have P10 : Hid (Bk w10 B #[.int .i64 kd, .int .i64 p, .int .i64 l, .int .i64 n, .int .i64 s, .bool cc, hs, .string x, my] 42) := P9.out.next b10
    have Q10 : Hid (Bk w10 A #[.int .i64 cw, .int .i64 ch, .int .i64 cl, .int .i64 cd, .int .i64 cr, .int .i64 ci, .int .i64 cb, .bool we, .bool ca] 23) := Q9.out.next b10
    have K10 : Hid (Bk w10 kb #[.int .i64 0, .int .i64 0, .int .u64 0, .bool false, .bool false, .int .i64 0, .int .i64 0] 63) := K9.out.next b10
    have B10 : Hid (Below A w w10) := B9.out.trans (b10.mono (Nat.le_of_lt Q9.out.lt))
    clear P9 Q9 K9 B9 b10
    go_wp2_with fail
    go_at_call 28
    with_reducible refine (rnil_phase 0 0 _).mono ?_
    rintro e w11 ⟨rfl, b11⟩
    have P11 : Hid (Bk w11 B #[.int .i64 kd, .int .i64 p, .int .i64 l, .int .i64 n, .int .i64 s, .bool cc, hs, .string x, my] 42) := P10.out.next b11
    have Q11 : Hid (Bk w11 A #[.int .i64 cw, .int .i64 ch, .int .i64 cl, .int .i64 cd, .int .i64 cr, .int .i64 ci, .int .i64 cb, .bool we, .bool ca] 23) := Q10.out.next b11
    have K11 : Hid (Bk w11 kb #[.int .i64 0, .int .i64 0, .int .u64 0, .bool false, .bool false, .int .i64 0, .int .i64 0] 63) := K10.out.next b11
    have B11 : Hid (Below A w w11) := B10.out.trans (b11.mono (Nat.le_of_lt Q10.out.lt))
    clear P10 Q10 K10 B10 b11
    go_wp2_with fail
    go_at_call 32
    with_reducible refine (rnil_idle _).mono ?_
    rintro e w12 ⟨rfl, b12⟩
    have P12 : Hid (Bk w12 B #[.int .i64 kd, .int .i64 p, .int .i64 l, .int .i64 n, .int .i64 s, .bool cc, hs, .string x, my] 42) := P11.out.next b12
    have Q12 : Hid (Bk w12 A #[.int .i64 cw, .int .i64 ch, .int .i64 cl, .int .i64 cd, .int .i64 cr, .int .i64 ci, .int .i64 cb, .bool we, .bool ca] 23) := Q11.out.next b12
    have K12 : Hid (Bk w12 kb #[.int .i64 0, .int .i64 0, .int .u64 0, .bool false, .bool false, .int .i64 0, .int .i64 0] 63) := K11.out.next b12
    have B12 : Hid (Below A w w12) := B11.out.trans (b12.mono (Nat.le_of_lt Q11.out.lt))
    clear P11 Q11 K11 B11 b12
    go_wp2
    go_ret
    exact ⟨rfl, by rw [HAW.out]; exact B12.out⟩
end Go.Proofs.YtmmegmonmilkcaaGreatDoor
