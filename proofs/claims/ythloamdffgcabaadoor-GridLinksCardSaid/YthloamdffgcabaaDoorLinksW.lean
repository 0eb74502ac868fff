/-
  The walk of GridLinks.
-/
import Derived.Test.YthloamdffgcabaaDoorBlk
import Derived.Test.YthloamdffgcabaaDoorRlinks
import Derived.Deep.CutRange
import Derived.ChangeKeysEq
namespace Go.Proofs.YthloamdffgcabaaDoor
open Go.RowKit

theorem ports_form (c : Cf) (n : Int) (w : World) (hS : Steps w) : Calls Tryd.prog 25 #[cfv c, .int .i64 n] w fun e w' => ∃ a x, e = .returned (.slice a (prt c n).length x) ∧ Rd w' a (vi (prt c n)) ∧ Below w.heap.size w w' :=
  (ports_any c n w hS).mono fun _ _ ⟨v, he, ho, hb⟩ => by
    obtain ⟨a, x, rfl, _, _, r⟩ := ho.rd
    exact ⟨a, x, by rw [he, vi_len], r, hb⟩
theorem rports_form (c : Cf) (n : Int) (w : World) : Calls Tryd.prog 26 #[cfv c, .int .i64 n] w fun e w' => ∃ a x, e = .returned (.slice a (prt c n).length x) ∧ Rd w' a (vi (prt c n)) ∧ Below w.heap.size w w' :=
  (rports_any c n w).mono fun _ _ ⟨v, he, ho, hb⟩ => by
    obtain ⟨a, x, rfl, _, _, r⟩ := ho.rd
    exact ⟨a, x, by rw [he, vi_len], r, hb⟩
theorem links_form (c : Cf) (w : World) (hS : Steps w) : Calls Tryd.prog 22 #[cfv c] w fun e w' => ∃ a x, e = .returned (.slice a (lks c).length x) ∧ Rd w' a (pc (lks c)) ∧ Below w.heap.size w w' :=
  (links_any c w hS).mono fun _ _ ⟨v, he, ho, hb⟩ => by
    obtain ⟨a, x, rfl, _, _, r⟩ := ho.rd
    exact ⟨a, x, he, r, hb⟩
theorem rlinks_form (c : Cf) (w : World) : Calls Tryd.prog 23 #[cfv c] w fun e w' => ∃ a x, e = .returned (.slice a (lks c).length x) ∧ Rd w' a (pc (lks c)) ∧ Below w.heap.size w w' :=
  (rlinks_any c w).mono fun _ _ ⟨v, he, ho, hb⟩ => by
    obtain ⟨a, x, rfl, _, _, r⟩ := ho.rd
    exact ⟨a, x, he, r, hb⟩
theorem Rd.drewN {w : World} {a : Option Addr} {vs : List Value} (h : Rd w a vs) (n : Nat) : Rd (w.drewN n) a vs := h.keep (Nat.le_refl _) (fun _ _ => rfl)

theorem Tryd.cells3 : Tryd.prog.cellsOf 3 = 1 := by kernel_rfl
theorem pair_ne (a b : Int) (w : World) : (binOp .neq 43 (.agg #[.int .i64 a, .int .i64 b]) (.agg #[.int .i64 a, .int .i64 b])).run Tryd.prog w = .ok (.bool false) w := by
  obtain ⟨i0, ki, hz0, hz1, hz2⟩ := info_parts Tryd.info3
  have e : (Op.equalIn 10000 43 (.agg #[.int .i64 a, .int .i64 b]) (.agg #[.int .i64 a, .int .i64 b])).run Tryd.prog w = .ok true w := by
    have u3 := Tryd.underlying3
    have a3 := Tryd.isAgg3
    have z3 := Tryd.sizeOf3
    rw [show (10000 : Nat) = 9999 + 1 from rfl, run_equalIn_array w 9999 _ _ Tryd.underlying43 ki, Tryd.cells3]
    go_simp
    simp [Op.eqItems]
    go_simp
  rw [run_neq_struct, e]
  rfl

theorem Tryd.pairGuard : Tryd.prog.eqGuardType Tryd.prog.depth 43 = false := by kernel_rfl

set_option maxRecDepth 100000 in
set_option maxHeartbeats 2000000 in
theorem gridLinks_any (c : Cf) (n : Int) (w : World) (hS : Steps w) : Calls Tryd.prog 4 #[cfv c, .int .i64 n] w fun e w' => e = .returned (.bool true) ∧ Below w.heap.size w w' := by
  have T0 : Hid (W1 w c (w.alloc (.cells (cfc c) 23))) := W1.start _ _
  have LV := lives_any _ (T0.out.steps hS)
  have LK := fun v h => links_form c v h
  have LR := rlinks_form c
  have PK := fun v h => ports_form c n v h
  have PR := rports_form c n
  have HP : Hid ((prt c n).length ≤ 1000) := Nat.le_trans (prt_len c n) (by decide)
  have HS : Hid (Steps w) := hS
  have HL : Hid ((lks c).length ≤ 1000000) := by
    have h1 := lksK_length c (nod c).toNat
    have h2 := nod_in c
    show (lksK c (nod c).toNat).length ≤ 1000000
    omega
  clear hS
  generalize lks c = L at *
  generalize prt c n = P at *
  obtain ⟨cw, ch, cl, cd, cr, ci, cb, we, ca⟩ := c
  simp only [cfv, cfc] at *
  by_cases h1 : cw ≤ 16 ∧ ch ≤ 16
  · have d1 : decide (16 < cw) = false := by simp; omega
    have d2 : decide (16 < ch) = false := by simp; omega
    clear h1
    go_enter Tryd.func4, Tryd.ntmps4
    go_wp2_with fail
    go_at_call 8
    refine LV.mono ?_
    rintro e v1 ⟨rfl, hb⟩
    have T1 : Hid (W1 w _ v1) := T0.out.next hb
    clear hb LV T0
    obtain ⟨x0, x1, x2, x3, x4, x5, x6, x7, x8⟩ := T1.out.cells
    have z1 := T1.out.lt
    simp only at x0 x1 x2 x3 x4 x5 x6 x7 x8
    go_wp2_with fail
    have D1 := T1.out.drew
    have S1 := D1.cells
    have Q1 := D1.steps HS.out
    simp only at S1
    clear x0 x1 x2 x3 x4 x5 x6 x7 x8 z1 d1 d2
    go_region_held3 (fun v => v.cell? ⟨w.heap.size, 0, none⟩ = some (.int .i64 cw) ∧ v.cell? ⟨w.heap.size, 1, none⟩ = some (.int .i64 ch) ∧ v.cell? ⟨w.heap.size, 2, none⟩ = some (.int .i64 cl) ∧ v.cell? ⟨w.heap.size, 3, none⟩ = some (.int .i64 cd) ∧ v.cell? ⟨w.heap.size, 4, none⟩ = some (.int .i64 cr) ∧ v.cell? ⟨w.heap.size, 5, none⟩ = some (.int .i64 ci) ∧ v.cell? ⟨w.heap.size, 6, none⟩ = some (.int .i64 cb) ∧ v.cell? ⟨w.heap.size, 7, none⟩ = some (.bool we) ∧ v.cell? ⟨w.heap.size, 8, none⟩ = some (.bool ca))
      (first | exact S3 | exact S2 | exact S1 | go_keep)
      (first
        | (go_at_call 22; (with_reducible refine (LK _ Q1).mono ?_); rintro e u2 ⟨aa, xa, rfl, ra, hb2⟩; have D2 := D1.next hb2; have S2 := D2.cells)
        | (go_at_call 23; (with_reducible refine (LR _).mono ?_); rintro e u3 ⟨ab, xb, rfl, rb, hb3⟩; have ra3 := ra.below hb3; have D3 := D2.next hb3; have S3 := D3.cells))
    have T3 : Hid (W1 w ⟨cw, ch, cl, cd, cr, ci, cb, we, ca⟩ u3) := D3
    have RA : Hid (Rd u3 aa (pc L)) := ra3
    have RB : Hid (Rd u3 ab (pc L)) := rb
    clear D1 S1 Q1 D2 S2 D3 S3 ra ra3 rb hb2 hb3 LK LR
    go_wp2_with fail
    have D1 := T3.out.drew
    have S1 := D1.cells
    have Q1 := D1.steps HS.out
    simp only at S1
    go_region_held3 (fun v => v.cell? ⟨w.heap.size, 0, none⟩ = some (.int .i64 cw) ∧ v.cell? ⟨w.heap.size, 1, none⟩ = some (.int .i64 ch) ∧ v.cell? ⟨w.heap.size, 2, none⟩ = some (.int .i64 cl) ∧ v.cell? ⟨w.heap.size, 3, none⟩ = some (.int .i64 cd) ∧ v.cell? ⟨w.heap.size, 4, none⟩ = some (.int .i64 cr) ∧ v.cell? ⟨w.heap.size, 5, none⟩ = some (.int .i64 ci) ∧ v.cell? ⟨w.heap.size, 6, none⟩ = some (.int .i64 cb) ∧ v.cell? ⟨w.heap.size, 7, none⟩ = some (.bool we) ∧ v.cell? ⟨w.heap.size, 8, none⟩ = some (.bool ca))
      (first | exact S6 | exact S5 | exact S4 | exact S1 | go_keep)
      (first
        | (go_at_call 25; (with_reducible refine (PK _ Q1).mono ?_); rintro e u4 ⟨ap, xp, rfl, rp, hb4⟩; have D4 := D1.next hb4; have S4 := D4.cells)
        | (go_at_call 26; (with_reducible refine (PR _).mono ?_); rintro e u5 ⟨aq, xq, rfl, rq, hb5⟩; have rp5 := rp.below hb5; have D5 := D4.next hb5; have S5 := D5.cells)
        | (go_at_call 24; (with_reducible refine (same_any P ap aq xp xq _ HP.out rp5 rq).mono ?_); rintro e u6 ⟨rfl, m, rfl⟩; have D6 := D5.drewN m; have S6 := D6.cells))
    have HD6 : Hid (W1 w ⟨cw, ch, cl, cd, cr, ci, cb, we, ca⟩ (u5.drewN m)) := D6
    have RA5 : Hid (Rd u5 aa (pc L)) := ((RA.out.drewN 1).below hb4).below hb5
    have RB5 : Hid (Rd u5 ab (pc L)) := ((RB.out.drewN 1).below hb4).below hb5
    clear D1 S1 Q1 D4 S4 D5 S5 D6 S6 rp rp5 rq hb4 hb5 PK PR RA RB T1 T3
    obtain ⟨N, hN⟩ : ∃ N, N = L.length := ⟨_, rfl⟩
    rw [← hN]
    have hNb : N ≤ 1000000 := by rw [hN]; exact HL.out
    have HN : Hid (N = L.length) := hN
    clear hN
    go_wp2_with fail
    go_loopw [7] (fun i wr => ∃ k q : Nat, k ≤ N ∧ i = .int .i64 k ∧ wr = u5.drewN q) (fun i _ => N - (RowKit.intOf i).toNat)
    case atStart => exact ⟨0, m, Nat.zero_le _, rfl, rfl⟩
    case round =>
      obtain ⟨k, q, hk, rfl, rfl⟩ := hrel
      by_cases hlt : k < N
      · have hltz : (k : Int) < N := by omega
        have hk0 : (0 : Int) ≤ k := by omega
        have ht : ((k : Int)).toNat = k := by omega
        obtain ⟨p1, p2⟩ := pc_at L k (by rw [← HN.out]; exact hlt)
        rw [Nat.mul_comm 2 k] at p1 p2
        obtain ⟨g, e1, hg, c1⟩ := RA5.out _ _ p1
        obtain ⟨g', e1', hg', c1'⟩ := RA5.out _ _ p2
        obtain ⟨f, e2, hf, c2⟩ := RB5.out _ _ p1
        obtain ⟨f', e2', hf', c2'⟩ := RB5.out _ _ p2
        rw [e1] at e1'
        rw [e2] at e2'
        simp only [Option.some.injEq, Addr.mk.injEq, and_true] at e1' e2'
        subst e1' e2'
        clear p1 p2 hg' hf'
        generalize (L.getD k (0, 0)).1 = y1 at *
        generalize (L.getD k (0, 0)).2 = y2 at *
        have PN := pair_ne y1 y2
        have PG := Tryd.pairGuard
        have c1 : (u5.drewN q).cell? ⟨g, k * 2, none⟩ = some (.int .i64 y1) := c1
        have c1' : (u5.drewN q).cell? ⟨g, k * 2 + 1, none⟩ = some (.int .i64 y2) := c1'
        have c2 : (u5.drewN q).cell? ⟨f, k * 2, none⟩ = some (.int .i64 y1) := c2
        have c2' : (u5.drewN q).cell? ⟨f, k * 2 + 1, none⟩ = some (.int .i64 y2) := c2'
        subst e1 e2
        go_wp2_with fail
        go_quiet (fail)
        go_wp2
        go_roundw
        case rel => exact ⟨k + 1, _, by omega, by go_num, rfl⟩
        case measure => simp [RowKit.intOf]; omega
      · have hltz : ¬ (k : Int) < N := by omega
        have BZ : Hid (∀ q, Below w.heap.size w (u5.drewN q)) := fun q => HD6.out.below.trans ⟨rfl, rfl, rfl, Nat.le_refl _, fun _ _ => rfl⟩
        go_wp2
        go_ret
        exact ⟨rfl, BZ.out _⟩
  · by_cases h2 : cw ≤ 16
    · have d1 : decide (16 < cw) = false := by simp; omega
      have d2 : decide (16 < ch) = true := by simp; omega
      clear h1 h2 LK LR PK PR
      go_enter Tryd.func4, Tryd.ntmps4
      go_wp2_with fail
      go_at_call 8
      refine LV.mono ?_
      rintro e v1 ⟨rfl, hb⟩
      have T1 : Hid (W1 w _ v1) := T0.out.next hb
      clear hb LV T0
      obtain ⟨x0, x1, x2, x3, x4, x5, x6, x7, x8⟩ := T1.out.cells
      simp only at x0 x1 x2 x3 x4 x5 x6 x7 x8
      go_wp2
      go_ret
      exact ⟨rfl, T1.out.below⟩
    · have d1 : decide (16 < cw) = true := by simp; omega
      clear h1 h2 LK LR PK PR
      go_enter Tryd.func4, Tryd.ntmps4
      go_wp2_with fail
      go_at_call 8
      refine LV.mono ?_
      rintro e v1 ⟨rfl, hb⟩
      have T1 : Hid (W1 w _ v1) := T0.out.next hb
      clear hb LV T0
      obtain ⟨x0, x1, x2, x3, x4, x5, x6, x7, x8⟩ := T1.out.cells
      simp only at x0 x1 x2 x3 x4 x5 x6 x7 x8
      go_wp2
      go_ret
      exact ⟨rfl, T1.out.below⟩
end Go.Proofs.YthloamdffgcabaaDoor
