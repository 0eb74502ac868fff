/-
  The walk of config.parse.
-/
import Derived.Test.YtkebplapjkefiaaDoorInto
namespace Go.Proofs.YtkebplapjkefiaaDoor
open Go.RowKit Go.Lib

theorem Blk.nine {v : World} {b : Nat} {c : Cf} (h : Blk v b c) :
    (v.cell? ⟨b, 0, none⟩ = some (.int .i64 c.w) ∧ v.cell? ⟨b, 1, none⟩ = some (.int .i64 c.h) ∧ v.cell? ⟨b, 2, none⟩ = some (.int .i64 c.l) ∧
    v.cell? ⟨b, 3, none⟩ = some (.int .i64 c.d) ∧ v.cell? ⟨b, 4, none⟩ = some (.int .i64 c.r) ∧ v.cell? ⟨b, 5, none⟩ = some (.int .i64 c.i) ∧
    v.cell? ⟨b, 6, none⟩ = some (.int .i64 c.b) ∧ v.cell? ⟨b, 7, none⟩ = some (.bool c.we) ∧ v.cell? ⟨b, 8, none⟩ = some (.bool c.ca)) ∧
    (v.frozen? ⟨b, 0, none⟩ = false ∧ v.frozen? ⟨b, 1, none⟩ = false ∧ v.frozen? ⟨b, 2, none⟩ = false ∧ v.frozen? ⟨b, 3, none⟩ = false ∧ v.frozen? ⟨b, 4, none⟩ = false ∧
    v.frozen? ⟨b, 5, none⟩ = false ∧ v.frozen? ⟨b, 6, none⟩ = false ∧ v.frozen? ⟨b, 7, none⟩ = false ∧ v.frozen? ⟨b, 8, none⟩ = false) :=
  ⟨⟨h.cell 0, h.cell 1, h.cell 2, h.cell 3, h.cell 4, h.cell 5, h.cell 6, h.cell 7, h.cell 8⟩, h.free 0, h.free 1, h.free 2, h.free 3, h.free 4, h.free 5, h.free 6, h.free 7, h.free 8⟩

theorem below_nine {w v : World} {B b : Nat} (h : Below B w v) (hb : B ≤ b) (x0 x1 x2 x3 x4 x5 x6 x7 x8 : Value) :
    Below B w (((((((((v.setCell ⟨b, 0, none⟩ x0).setCell ⟨b, 1, none⟩ x1).setCell ⟨b, 2, none⟩ x2).setCell ⟨b, 3, none⟩ x3).setCell ⟨b, 4, none⟩ x4).setCell ⟨b, 5, none⟩ x5).setCell ⟨b, 6, none⟩ x6).setCell ⟨b, 7, none⟩ x7).setCell ⟨b, 8, none⟩ x8) :=
  ((((((((h.setCell hb _).setCell hb _).setCell hb _).setCell hb _).setCell hb _).setCell hb _).setCell hb _).setCell hb _).setCell hb _

theorem Blk.keep {v v' : World} {b B : Nat} {c : Cf} (h : Blk v b c) (hb : Below B v v') (hB : b < B) : Blk v' b c := by
  unfold Blk
  rw [hb.block b hB]
  exact h
theorem Blk.new (w : World) (c : Cf) : Blk (w.alloc (.cells (cfc c) 23)) w.heap.size c := heap_alloc_new w _
theorem Blk.alloc {v : World} {b : Nat} {c : Cf} (h : Blk v b c) (o : Obj) : Blk (v.alloc o) b c := h.below ((Below.refl _ _).alloc (Nat.le_refl _) o)

theorem plc_one (w : World) (b : Nat) : Plc (w.alloc (.cells #[.pointer (some ⟨b, 0, none⟩)] 64)) w.heap.size b [0] :=
  ⟨by simp, fun j o hj => by
    match j, hj with
    | 0, hj => simp at hj; subst hj; exact (World.cell?_alloc_at _ _ _ _ rfl).trans rfl⟩
theorem plc_six (w : World) (b : Nat) : Plc (w.alloc (.cells #[.pointer (some ⟨b, 1, none⟩), .pointer (some ⟨b, 2, none⟩), .pointer (some ⟨b, 3, none⟩), .pointer (some ⟨b, 4, none⟩), .pointer (some ⟨b, 5, none⟩), .pointer (some ⟨b, 6, none⟩)] 64)) w.heap.size b [1, 2, 3, 4, 5, 6] :=
  ⟨by simp, fun j o hj => by
    match j, hj with
    | 0, hj => simp at hj; subst hj; exact (World.cell?_alloc_at _ _ _ _ rfl).trans rfl
    | 1, hj => simp at hj; subst hj; exact (World.cell?_alloc_at _ _ _ _ rfl).trans rfl
    | 2, hj => simp at hj; subst hj; exact (World.cell?_alloc_at _ _ _ _ rfl).trans rfl
    | 3, hj => simp at hj; subst hj; exact (World.cell?_alloc_at _ _ _ _ rfl).trans rfl
    | 4, hj => simp at hj; subst hj; exact (World.cell?_alloc_at _ _ _ _ rfl).trans rfl
    | 5, hj => simp at hj; subst hj; exact (World.cell?_alloc_at _ _ _ _ rfl).trans rfl⟩

theorem rin_len {x : UInt8} : ∀ {k : Nat} {s : L} {ns : List Int} {r : L}, rin x k s = some (ns, r) → r.length ≤ s.length
  | 0, s, ns, r, h => by
    simp only [rin, Option.some.injEq, Prod.mk.injEq] at h
    obtain ⟨rfl, rfl⟩ := h
    exact Nat.le_refl _
  | k + 1, s, ns, r, h => by
    simp only [rin] at h
    split at h
    · cases h
    · split at h
      · cases h
      · cases hr : rin x k (cut s [x]).2.1 with
        | none => rw [hr] at h; cases h
        | some p =>
          rw [hr] at h
          simp only [Option.map_some, Option.some.injEq, Prod.mk.injEq] at h
          obtain ⟨rfl, rfl⟩ := h
          have := rin_len (ns := p.1) (r := p.2) hr
          have := (cut_le s [x]).2
          omega

/-- What parse tells. -/
def Prs (o : Option Cf) (w : World) (e : Ending) (w' : World) : Prop :=
  Below w.heap.size w w' ∧ match o with
    | none => e = .returned (.tuple #[cfv zc, .bool false])
    | some c => e = .returned (.tuple #[cfv c, .bool true])
theorem Prs.no {o : Option Cf} {w w' : World} (h : o = none) (hb : Below w.heap.size w w') : Prs o w (.returned (.tuple #[cfv zc, .bool false])) w' := by
  subst h; exact ⟨hb, rfl⟩
theorem Prs.yes {o : Option Cf} {c : Cf} {w w' : World} (h : o = some c) (hb : Below w.heap.size w w') : Prs o w (.returned (.tuple #[cfv c, .bool true])) w' := by
  subst h; exact ⟨hb, rfl⟩

set_option maxRecDepth 100000 in
set_option maxHeartbeats 1000000 in
theorem parse_any (s : L) (hs : s.length ≤ 1000) (w : World) (hE : Env w) : Calls Tryd.prog 25 #[.string (bs s)] w (Prs (par s) w) := by
  have HE : Hid (Env w) := hE
  have h6 : 6 ≤ w.heap.size := hE.1
  obtain ⟨P, hP⟩ : ∃ P, P = par s := ⟨_, rfl⟩
  rw [← hP]
  have HP : Hid (P = par s) := hP
  have HS : Hid (s.length ≤ 1000) := hs
  clear hP hs hE
  have HB0 : Hid (Blk ((w.alloc (.cells (cfc zc) 23)).alloc (.cells (cfc zc) 23)) w.heap.size zc) := (Blk.new w zc).alloc _
  have HB1 : Hid (Blk ((w.alloc (.cells (cfc zc) 23)).alloc (.cells (cfc zc) 23)) (w.heap.size + 1) zc) := by
    have h := Blk.new (w.alloc (.cells (cfc zc) 23)) zc
    rw [show (w.alloc (.cells (cfc zc) 23)).heap.size = w.heap.size + 1 by simp] at h
    exact h
  have HW : Hid (Below w.heap.size w ((w.alloc (.cells (cfc zc) 23)).alloc (.cells (cfc zc) 23))) := ((Below.refl _ _).alloc (Nat.le_refl _) _).alloc (by simp) _
  have I1 := into_any 120 s HS.out [0] 1 rfl (by omega) (by simp) zc (w.heap.size + 1) (w.heap.size + 1 + 1) (by omega) (by omega) _ (HE.out.below (HW.out.alloc (by simp; omega) (.cells #[.pointer (some ⟨w.heap.size + 1, 0, none⟩)] 64)) h6) (HB1.out.alloc _) (by
    have h := plc_one ((w.alloc (.cells (cfc zc) 23)).alloc (.cells (cfc zc) 23)) (w.heap.size + 1)
    rw [show ((w.alloc (.cells (cfc zc) 23)).alloc (.cells (cfc zc) 23)).heap.size = w.heap.size + 1 + 1 by simp] at h
    exact h)
  obtain ⟨R1, hR1⟩ : ∃ R, R = rin 120 1 s := ⟨_, rfl⟩
  rw [← hR1] at I1
  have HR1 : Hid (R1 = rin 120 1 s) := hR1
  clear hR1
  cases R1 with
  | none =>
    have HP2 : Hid (P = none) := by show _ = _; rw [HP.out]; unfold par; rw [← HR1.out]
    simp only [cfc, zc] at *
    go_enter Tryd.func25, Tryd.ntmps25
    go_wp2_with fail
    go_at_call 33
    refine I1.mono ?_
    rintro e v1 ⟨hb, c1, hc1, rfl⟩
    have HWL : Hid (Below w.heap.size w v1) := (HW.out.alloc (by simp; omega) (.cells #[.pointer (some ⟨w.heap.size + 1, 0, none⟩)] 64)).trans (hb.mono (by omega))
    obtain ⟨⟨z0, z1, z2, z3, z4, z5, z6, z7, z8⟩, f0, f1, f2, f3, f4, f5, f6, f7, f8⟩ := ((HB0.out.alloc (.cells #[.pointer (some ⟨w.heap.size + 1, 0, none⟩)] 64)).keep hb (by omega)).nine
    clear hb hc1 I1
    go_wp2
    exact bodyPost_ret (v := .tuple #[.agg #[.int .i64 0, .int .i64 0, .int .i64 0, .int .i64 0, .int .i64 0, .int .i64 0, .int .i64 0, .bool false, .bool false], .bool false]) (by simp [results, Tryd.results25, go_sem, z0, z1, z2, z3, z4, z5, z6, z7, z8]) rfl (Prs.no HP2.out (below_nine HWL.out (Nat.le_refl _) _ _ _ _ _ _ _ _ _))
  | some q =>
    obtain ⟨ns, r⟩ := q
    obtain ⟨a, rfl⟩ : ∃ a, ns = [a] := by
      have := (rin_some HR1.out.symm).1
      match ns, this with
      | [a], _ => exact ⟨a, rfl⟩
    have HRL : Hid (r.length ≤ 1000) := by have := rin_len HR1.out.symm; have := HS.out; show _ ≤ _; omega
    have I2 := fun (v : World) (hlt : w.heap.size + 1 < v.heap.size) hE' hB' => into_any 32 r HRL.out [1, 2, 3, 4, 5, 6] 6 rfl (by omega) (by simp) (setAll zc [0] [a]) (w.heap.size + 1) v.heap.size hlt (by omega) (v.alloc (.cells #[.pointer (some ⟨w.heap.size + 1, 1, none⟩), .pointer (some ⟨w.heap.size + 1, 2, none⟩), .pointer (some ⟨w.heap.size + 1, 3, none⟩), .pointer (some ⟨w.heap.size + 1, 4, none⟩), .pointer (some ⟨w.heap.size + 1, 5, none⟩), .pointer (some ⟨w.heap.size + 1, 6, none⟩)] 64)) hE' hB' (plc_six v _)
    have HPP : Hid (P = match rin 32 6 r with
      | some ([b, c, d, e, f, g], t) => some ⟨a, b, c, d, e, f, g, hasPrefix t west, hasSuffix t cast⟩
      | _ => none) := by show _ = _; rw [HP.out]; unfold par; rw [← HR1.out]; rfl
    obtain ⟨R2, hR2⟩ : ∃ R, R = rin 32 6 r := ⟨_, rfl⟩
    simp only [← hR2] at I2
    have HR2 : Hid (R2 = rin 32 6 r) := hR2
    clear hR2
    cases R2 with
    | none =>
      have HP2 : Hid (P = none) := by show _ = _; rw [HPP.out, ← HR2.out]
      simp only [cfc, zc] at *
      go_enter Tryd.func25, Tryd.ntmps25
      go_wp2_with fail
      go_at_call 33
      refine I1.mono ?_
      rintro e v1 ⟨hb, c1, hc1, rfl, rfl⟩
      have HWL : Hid (Below w.heap.size w v1) := (HW.out.alloc (by simp; omega) (.cells #[.pointer (some ⟨w.heap.size + 1, 0, none⟩)] 64)).trans (hb.mono (by omega))
      have HBZ : Hid (Blk v1 w.heap.size _) := (HB0.out.alloc (.cells #[.pointer (some ⟨w.heap.size + 1, 0, none⟩)] 64)).keep hb (by omega)
      have J := I2 v1 hc1.lt (HE.out.below (HWL.out.alloc HWL.out.size _) h6) (hc1.alloc _)
      have hz1 : w.heap.size + 1 < v1.heap.size := hc1.lt
      clear hb hc1 I1 I2
      go_wp2_with fail
      go_at_call 33
      refine J.mono ?_
      rintro e v2 ⟨hb, c2, hc2, rfl⟩
      have HWL2 : Hid (Below w.heap.size w v2) := (HWL.out.alloc HWL.out.size (.cells #[.pointer (some ⟨w.heap.size + 1, 1, none⟩), .pointer (some ⟨w.heap.size + 1, 2, none⟩), .pointer (some ⟨w.heap.size + 1, 3, none⟩), .pointer (some ⟨w.heap.size + 1, 4, none⟩), .pointer (some ⟨w.heap.size + 1, 5, none⟩), .pointer (some ⟨w.heap.size + 1, 6, none⟩)] 64)).trans (hb.mono (by omega))
      have HBZ2 := (HBZ.out.alloc (.cells #[.pointer (some ⟨w.heap.size + 1, 1, none⟩), .pointer (some ⟨w.heap.size + 1, 2, none⟩), .pointer (some ⟨w.heap.size + 1, 3, none⟩), .pointer (some ⟨w.heap.size + 1, 4, none⟩), .pointer (some ⟨w.heap.size + 1, 5, none⟩), .pointer (some ⟨w.heap.size + 1, 6, none⟩)] 64)).keep hb (by omega)
      obtain ⟨⟨z0, z1, z2, z3, z4, z5, z6, z7, z8⟩, f0, f1, f2, f3, f4, f5, f6, f7, f8⟩ := HBZ2.nine
      clear hb hc2 J HBZ2 HBZ
      go_wp2
      exact bodyPost_ret (v := .tuple #[.agg #[.int .i64 0, .int .i64 0, .int .i64 0, .int .i64 0, .int .i64 0, .int .i64 0, .int .i64 0, .bool false, .bool false], .bool false]) (by simp [results, Tryd.results25, go_sem, z0, z1, z2, z3, z4, z5, z6, z7, z8]) rfl (Prs.no HP2.out (below_nine HWL2.out (Nat.le_refl _) _ _ _ _ _ _ _ _ _))
    | some q2 =>
      obtain ⟨ns2, t⟩ := q2
      obtain ⟨n1, n2, n3, n4, n5, n6, rfl⟩ : ∃ n1 n2 n3 n4 n5 n6, ns2 = [n1, n2, n3, n4, n5, n6] := by
        have := (rin_some HR2.out.symm).1
        match ns2, this with
        | [n1, n2, n3, n4, n5, n6], _ => exact ⟨n1, n2, n3, n4, n5, n6, rfl⟩
      have HP2 : Hid (P = some ⟨a, n1, n2, n3, n4, n5, n6, hasPrefix t west, hasSuffix t cast⟩) := by show _ = _; rw [HPP.out, ← HR2.out]
      have htl : t.length ≤ 1000 := by have := rin_len HR2.out.symm; have := HRL.out; omega
      have KP := hasPrefix_any t [119, 101, 115, 116]
      have KS := hasSuffix_any t [99, 97, 115, 116] htl
      change Hid (P = some ⟨a, n1, n2, n3, n4, n5, n6, hasPrefix t [119, 101, 115, 116], hasSuffix t [99, 97, 115, 116]⟩) at HP2
      generalize hasPrefix t [119, 101, 115, 116] = bw at *
      generalize hasSuffix t [99, 97, 115, 116] = bc at *
      clear HPP HRL htl
      simp only [cfc, zc] at *
      go_enter Tryd.func25, Tryd.ntmps25
      go_wp2_with fail
      go_at_call 33
      refine I1.mono ?_
      rintro e v1 ⟨hb, c1, hc1, rfl, rfl⟩
      have HWL : Hid (Below w.heap.size w v1) := (HW.out.alloc (by simp; omega) (.cells #[.pointer (some ⟨w.heap.size + 1, 0, none⟩)] 64)).trans (hb.mono (by omega))
      have HBZ : Hid (Blk v1 w.heap.size _) := (HB0.out.alloc (.cells #[.pointer (some ⟨w.heap.size + 1, 0, none⟩)] 64)).keep hb (by omega)
      have J := I2 v1 hc1.lt (HE.out.below (HWL.out.alloc HWL.out.size _) h6) (hc1.alloc _)
      have hz1 : w.heap.size + 1 < v1.heap.size := hc1.lt
      clear hb hc1 I1 I2
      go_wp2_with fail
      go_at_call 33
      refine J.mono ?_
      rintro e v2 ⟨hb, c2, hc2, rfl, rfl⟩
      have HWL2 : Hid (Below w.heap.size w v2) := (HWL.out.alloc HWL.out.size (.cells #[.pointer (some ⟨w.heap.size + 1, 1, none⟩), .pointer (some ⟨w.heap.size + 1, 2, none⟩), .pointer (some ⟨w.heap.size + 1, 3, none⟩), .pointer (some ⟨w.heap.size + 1, 4, none⟩), .pointer (some ⟨w.heap.size + 1, 5, none⟩), .pointer (some ⟨w.heap.size + 1, 6, none⟩)] 64)).trans (hb.mono (by omega))
      have HBZ2 := (HBZ.out.alloc (.cells #[.pointer (some ⟨w.heap.size + 1, 1, none⟩), .pointer (some ⟨w.heap.size + 1, 2, none⟩), .pointer (some ⟨w.heap.size + 1, 3, none⟩), .pointer (some ⟨w.heap.size + 1, 4, none⟩), .pointer (some ⟨w.heap.size + 1, 5, none⟩), .pointer (some ⟨w.heap.size + 1, 6, none⟩)] 64)).keep hb (by omega)
      obtain ⟨⟨z0, z1, z2, z3, z4, z5, z6, z7, z8⟩, f0, f1, f2, f3, f4, f5, f6, f7, f8⟩ := HBZ2.nine
      obtain ⟨⟨y0, y1, y2, y3, y4, y5, y6, y7, y8⟩, g0, g1, g2, g3, g4, g5, g6, g7, g8⟩ := hc2.nine
      simp only [setAll, setAt] at y0 y1 y2 y3 y4 y5 y6 y7 y8
      clear hb hc2 J HBZ2 HBZ
      go_wp2_with (first
        | (go_at_call 34; (with_reducible refine (KP _).mono ?_); rintro e w' ⟨rfl, rfl⟩)
        | (go_at_call 35; (with_reducible refine (KS _).mono ?_); rintro e w' ⟨rfl, rfl⟩))
      exact bodyPost_ret (v := .tuple #[.agg #[.int .i64 a, .int .i64 n1, .int .i64 n2, .int .i64 n3, .int .i64 n4, .int .i64 n5, .int .i64 n6, .bool bw, .bool bc], .bool true]) (by simp [results, Tryd.results25, go_sem, z0, z1, z2, z3, z4, z5, z6, z7, z8]) rfl (Prs.yes HP2.out (below_nine ((HWL2.out.setCell (Nat.le_succ _) _).setCell (Nat.le_succ _) _) (Nat.le_refl _) _ _ _ _ _ _ _ _ _))
end Go.Proofs.YtkebplapjkefiaaDoor
