/-
  A parcel for one whose node is set (plain mathematics); three boxes of a law.
-/
import Derived.Test.YtmmegmonmilkcaaGreatDoorRtThr
import Derived.Test.YtmmegmonmilkcaaGreatDoorGoodR
namespace Go.Proofs.YtmmegmonmilkcaaGreatDoor
open Go.RowKit

def setP (v : Int) (P : Pc) : Pc := { P with hs := P.hs.set 0 (v, (P.hs.getD 0 (0, 0)).2) }
theorem setP_fine {P : Pc} (F : Fine P) {v : Int} (h0 : 0 ≤ v) (h1 : v ≤ 4095) : Fine (setP v P) := by
  have hl : (setP v P).hs.length = P.hs.length := List.length_set ..
  obtain ⟨a1, ⟨a2, a3, a4⟩, a5, a6⟩ := (ok_iff P).1 F.ok
  refine ⟨(ok_iff _).2 ⟨a1, ⟨by rw [hl]; exact a2, by rw [hl]; exact a3, by rw [hl]; exact a4⟩, a5, fun y hy => ?_⟩, by rw [hl]; exact F.l1, by rw [hl]; exact F.l6, F.x64⟩
  rcases List.mem_or_eq_of_mem_set (show y ∈ P.hs.set 0 _ from hy) with hy | rfl
  · exact a6 y hy
  · have k := (headOk_iff _).1 (a6 (P.hs.getD 0 (0, 0)) (by
      rw [List.getD_eq_getElem?_getD, List.getElem?_eq_getElem (show 0 < P.hs.length by omega)]
      exact List.getElem_mem _))
    exact (headOk_iff _).2 ⟨h0, h1, k.2.2.1, k.2.2.2⟩
theorem one_head {P : Pc} (F : Fine P) (hc : P.c = false) : P.hs.length = 1 := by
  obtain ⟨-, ⟨-, -, h | h⟩, -⟩ := (ok_iff P).1 F.ok
  · rw [hc] at h; cases h
  · exact h
theorem setP_wds {P : Pc} (F : Fine P) (hc : P.c = false) {v : Int} (h0 : 0 ≤ v) (h1 : v ≤ 4095) : Wds (setP v P).ws 1 (fun _ => v) ∧ (readR ((setP v P).ws.getD 0 0)).1.c = false ∧ (readR ((setP v P).ws.getD 0 0)).1.d = v := by
  have F2 := setP_fine F h0 h1
  have hl := one_head F hc
  have hl2 : (setP v P).hs.length = 1 := (List.length_set ..).trans hl
  have W := wds_fine F2
  rw [hl2] at W
  have e : ((setP v P).hs.getD 0 (0, 0)).1 = v := by
    show ((P.hs.set 0 (v, (P.hs.getD 0 (0, 0)).2)).getD 0 (0, 0)).1 = v
    rw [List.getD_eq_getElem?_getD, List.getElem?_set]
    simp [hl]
  have hd := W.hd 0 (by decide)
  refine ⟨⟨W.n1, W.len, W.small, W.lt, fun i hi => ?_, W.bd, W.tl⟩, ?_, ?_⟩
  · obtain rfl : i = 0 := by omega
    exact ⟨hd.1, hd.2.1, hd.2.2.1.trans e, hd.2.2.2⟩
  · exact (hd_cast F2 (by omega)).trans hc
  · exact hd.2.2.1.trans e
/-- Three boxes of a law's own, A and the next two; since w. -/
structure Bx3 (w wr : World) (A : Nat) (CF AT PC : Array Value) (t u r : TypeId) : Prop where
  q : Bk wr A CF t
  t : Bk wr (A + 1) AT u
  p : Bk wr (A + 1 + 1) PC r
  b : Below A w wr
section
variable {w wr w' : World} {A : Nat} {CF AT PC : Array Value} {t u r : TypeId}
theorem Bx3.start (w : World) (CF AT PC : Array Value) (t u r : TypeId) : Bx3 w (((w.alloc (.cells CF t)).alloc (.cells AT u)).alloc (.cells PC r)) w.heap.size CF AT PC t u r := by
  obtain ⟨a, b, c, d, -⟩ := (three_blocks w CF AT PC t u r).out
  exact ⟨a, b, c, d⟩
theorem Bx3.lt (h : Bx3 w wr A CF AT PC t u r) : A + 1 + 1 < wr.heap.size := h.p.lt
theorem Bx3.next (h : Bx3 w wr A CF AT PC t u r) (hb : Below wr.heap.size wr w') : Bx3 w w' A CF AT PC t u r := by
  have := h.lt
  exact ⟨h.q.next hb, h.t.next hb, h.p.next hb, h.b.trans (hb.mono (by omega))⟩
theorem Bx3.far (h : Bx3 w wr A CF AT PC t u r) {k j : Nat} {x : Value} (hk : A + 1 + 1 < k) : Bx3 w (wr.setCell ⟨k, j, none⟩ x) A CF AT PC t u r :=
  ⟨h.q.far (by omega), h.t.far (by omega), h.p.far (by omega), h.b.setCell (by show A ≤ k; omega) _⟩
theorem Bx3.setp (h : Bx3 w wr A CF AT PC t u r) (j : Nat) (x : Value) : Bx3 w (wr.setCell ⟨A + 1 + 1, j, none⟩ x) A CF AT (PC.setIfInBounds j x) t u r :=
  ⟨h.q.far (by omega), h.t.far (by omega), h.p.set j x, h.b.setCell (by show A ≤ A + 1 + 1; omega) _⟩
theorem Bx3.setq (h : Bx3 w wr A CF AT PC t u r) (j : Nat) (x : Value) : Bx3 w (wr.setCell ⟨A, j, none⟩ x) A (CF.setIfInBounds j x) AT PC t u r :=
  ⟨h.q.set j x, h.t.far (by omega), h.p.far (by omega), h.b.setCell (by show A ≤ A; omega) _⟩
end
/-- A config in its box: its cells, all turned. -/
theorem Bx3.config {w wr : World} {A : Nat} {c0 c1 c2 c3 c4 c5 c6 c7 c8 x0 x1 x2 x3 x4 x5 x6 x7 x8 : Value} {AT PC : Array Value} {t u r : TypeId} (h : Bx3 w wr A #[c0, c1, c2, c3, c4, c5, c6, c7, c8] AT PC t u r) :
    Bx3 w (((((((((wr.setCell ⟨A, 0, none⟩ x0).setCell ⟨A, 1, none⟩ x1).setCell ⟨A, 2, none⟩ x2).setCell ⟨A, 3, none⟩ x3).setCell ⟨A, 4, none⟩ x4).setCell ⟨A, 5, none⟩ x5).setCell ⟨A, 6, none⟩ x6).setCell ⟨A, 7, none⟩ x7).setCell ⟨A, 8, none⟩ x8) A #[x0, x1, x2, x3, x4, x5, x6, x7, x8] AT PC t u r := by
  have := ((((((((h.setq 0 x0).setq 1 x1).setq 2 x2).setq 3 x3).setq 4 x4).setq 5 x5).setq 6 x6).setq 7 x7).setq 8 x8
  simpa using this
theorem nine_cells {v : World} {b : Nat} {c0 c1 c2 c3 c4 c5 c6 c7 c8 : Value} {t : TypeId} (q : Bk v b #[c0, c1, c2, c3, c4, c5, c6, c7, c8] t) :
    v.cell? ⟨b, 0, none⟩ = some c0 ∧ v.cell? ⟨b, 1, none⟩ = some c1 ∧ v.cell? ⟨b, 2, none⟩ = some c2 ∧ v.cell? ⟨b, 3, none⟩ = some c3 ∧ v.cell? ⟨b, 4, none⟩ = some c4 ∧ v.cell? ⟨b, 5, none⟩ = some c5 ∧ v.cell? ⟨b, 6, none⟩ = some c6 ∧ v.cell? ⟨b, 7, none⟩ = some c7 ∧ v.cell? ⟨b, 8, none⟩ = some c8 :=
  ⟨(q.cell 0).trans rfl, (q.cell 1).trans rfl, (q.cell 2).trans rfl, (q.cell 3).trans rfl, (q.cell 4).trans rfl, (q.cell 5).trans rfl, (q.cell 6).trans rfl, (q.cell 7).trans rfl, (q.cell 8).trans rfl⟩
theorem nine_free {v : World} {b : Nat} {cs : Array Value} {t : TypeId} (q : Bk v b cs t) :
    v.frozen? ⟨b, 0, none⟩ = false ∧ v.frozen? ⟨b, 1, none⟩ = false ∧ v.frozen? ⟨b, 2, none⟩ = false ∧ v.frozen? ⟨b, 3, none⟩ = false ∧ v.frozen? ⟨b, 4, none⟩ = false ∧ v.frozen? ⟨b, 5, none⟩ = false ∧ v.frozen? ⟨b, 6, none⟩ = false ∧ v.frozen? ⟨b, 7, none⟩ = false ∧ v.frozen? ⟨b, 8, none⟩ = false :=
  ⟨q.free 0, q.free 1, q.free 2, q.free 3, q.free 4, q.free 5, q.free 6, q.free 7, q.free 8⟩
theorem four_cells {v : World} {b : Nat} {c0 c1 c2 c3 : Value} {t : TypeId} (q : Bk v b #[c0, c1, c2, c3] t) :
    v.cell? ⟨b, 0, none⟩ = some c0 ∧ v.cell? ⟨b, 1, none⟩ = some c1 ∧ v.cell? ⟨b, 2, none⟩ = some c2 ∧ v.cell? ⟨b, 3, none⟩ = some c3 :=
  ⟨(q.cell 0).trans rfl, (q.cell 1).trans rfl, (q.cell 2).trans rfl, (q.cell 3).trans rfl⟩
/-- The same but for how far a buffer goes. -/
theorem fits_depth {dw dh dl dd dr di db : Int} {de da : Bool} (f : G.Fits ⟨dw, dh, dl, dd, dr, di, db, de, da⟩) : G.Fits ⟨dw, dh, dl, 64, dr, di, db, de, da⟩ :=
  ⟨f.w1, f.w2, f.h1, f.h2, f.l1, f.l2, f.lc, (by decide : (1 : Int) ≤ 64), (by decide : (64 : Int) ≤ 64), f.r1, f.r2, f.i1, f.i2, f.b1, f.b2⟩
/-- The first node of a row of Heads, set. -/
theorem Rd.first {w : World} {g o : Nat} {l : List (Int × Int)} (h : Rd w (some ⟨g, o, none⟩) (pc l)) (hl : 0 < l.length) (y : Int) : Rd (w.setCell ⟨g, o, none⟩ (.int .i64 y)) (some ⟨g, o, none⟩) (pc (l.set 0 (y, (l.getD 0 (0, 0)).2))) := by
  obtain ⟨h1, -⟩ := pc_at l 0 hl
  obtain ⟨g1, o1, e1, hg, hc⟩ := h _ _ h1
  simp only [Option.some.injEq, Addr.mk.injEq, and_true] at e1
  obtain ⟨rfl, rfl⟩ := e1
  rw [Nat.zero_mul, Nat.add_zero] at hc
  match l, hl with
  | z :: t, _ =>
    intro j v hj
    refine ⟨g, o, rfl, by simpa using hg, ?_⟩
    have e : pc ((z :: t).set 0 (y, ((z :: t).getD 0 (0, 0)).2)) = .int .i64 y :: .int .i64 z.2 :: pc t := by simp [pc]
    have e0 : pc (z :: t) = .int .i64 z.1 :: .int .i64 z.2 :: pc t := by simp [pc]
    rw [e] at hj
    cases j with
    | zero =>
      simp only [List.getElem?_cons_zero, Option.some.injEq] at hj
      subst hj
      rw [Nat.add_zero]
      exact World.cell?_setCell_same _ _ _ hc
    | succ j =>
      obtain ⟨g2, o2, e2, -, hc2⟩ := h (j + 1) v (by rw [e0]; simpa using hj)
      simp only [Option.some.injEq, Addr.mk.injEq, and_true] at e2
      obtain ⟨rfl, rfl⟩ := e2
      rw [World.cell?_setCell_other _ _ _ _ (by intro c; simp only [Addr.mk.injEq] at c; omega)]
      exact hc2
end Go.Proofs.YtmmegmonmilkcaaGreatDoor
