/-
  The walk of the document's Small.
-/
import Derived.Test.YtaohimmmhpmgdaaDoorNodes
namespace Go.Proofs.YtaohimmmhpmgdaaDoor
open Go.RowKit

theorem tm_in (x m : Int) (hm : 0 < m) : ∃ q : Int, (IntKind.u64.wrap x).tmod m = q ∧ 0 ≤ q ∧ q < m := by
  have h0 : 0 ≤ IntKind.u64.wrap x := by
    have := IntKind.wrap_u64 x
    rw [this]
    omega
  refine ⟨_, rfl, Int.tmod_nonneg _ h0, ?_⟩
  rw [Int.tmod_eq_emod_of_nonneg h0]
  exact Int.emod_lt_of_pos _ hm

/-- What Small makes. -/
def SmallP (w : World) (e : Ending) (w' : World) : Prop := ∃ c', e = .returned (cfv c') ∧ Below w.heap.size w w' ∧ Fits c' ∧ c'.w ≤ 4 ∧ c'.h ≤ 4
theorem SmallP.mk {w w' : World} {c' : Cf} (hb : Below w.heap.size w w') (f : Fits c') (hw : c'.w ≤ 4) (hh : c'.h ≤ 4) : SmallP w (.returned (cfv c')) w' := ⟨c', rfl, hb, f, hw, hh⟩

set_option maxRecDepth 100000 in
set_option maxHeartbeats 1000000 in
theorem small_any (c : Cf) (w : World) : Calls Tryd.prog 14 #[cfv c] w (SmallP w) := by
  obtain ⟨cw, ch, cl, cd, cr, ci, cb, we, ca⟩ := c
  obtain ⟨qw, ew, aw, bw⟩ := tm_in cw 4 (by decide)
  obtain ⟨qh, eh, ah, bh⟩ := tm_in ch 4 (by decide)
  obtain ⟨ql, el, al, bl⟩ := tm_in cl 3 (by decide)
  obtain ⟨qd, ed, ad, bd⟩ := tm_in cd 3 (by decide)
  obtain ⟨qr, er, ar, br⟩ := tm_in cr 3 (by decide)
  obtain ⟨qi, ei, ai, bi⟩ := tm_in ci 3 (by decide)
  obtain ⟨qb, eb, ab, bb⟩ := tm_in cb 4 (by decide)
  simp only [cfv, cfc] at *
  cases ca
  · go_enter Tryd.func14, Tryd.ntmps14
    go_wp2
    exact bodyPost_ret (v := .agg #[.int .i64 (1 + qw), .int .i64 (1 + qh), .int .i64 (1 + ql), .int .i64 (1 + qd), .int .i64 (1 + qr), .int .i64 (1 + qi), .int .i64 (1 + qb), .bool we, .bool false]) (by simp [results, Tryd.results14, go_sem]) rfl (SmallP.mk (c' := ⟨1 + qw, 1 + qh, (1 + ql), 1 + qd, 1 + qr, 1 + qi, 1 + qb, we, false⟩) ((((Below.refl _ _).alloc (Nat.le_refl _) _).alloc (by simp) _).alloc (by simp; omega) _) ⟨by show _ ≤ 1 + qw; omega, by show 1 + qw ≤ _; omega, by show _ ≤ 1 + qh; omega, by show 1 + qh ≤ _; omega, by show _ ≤ (1 + ql); omega, by show (1 + ql) ≤ _; omega, by intro h; show _ ≤ (1 + ql); first | omega | exact absurd h Bool.false_ne_true, by show _ ≤ 1 + qd; omega, by show 1 + qd ≤ _; omega, by show _ ≤ 1 + qr; omega, by show 1 + qr ≤ _; omega, by show _ ≤ 1 + qi; omega, by show 1 + qi ≤ _; omega, by show _ ≤ 1 + qb; omega, by show 1 + qb ≤ _; omega⟩ (by show 1 + qw ≤ _; omega) (by show 1 + qh ≤ _; omega))
  · by_cases hl : 1 + ql < 2
    · go_enter Tryd.func14, Tryd.ntmps14
      go_wp2
      exact bodyPost_ret (v := .agg #[.int .i64 (1 + qw), .int .i64 (1 + qh), .int .i64 2, .int .i64 (1 + qd), .int .i64 (1 + qr), .int .i64 (1 + qi), .int .i64 (1 + qb), .bool we, .bool true]) (by simp [results, Tryd.results14, go_sem]) rfl (SmallP.mk (c' := ⟨1 + qw, 1 + qh, 2, 1 + qd, 1 + qr, 1 + qi, 1 + qb, we, true⟩) ((((Below.refl _ _).alloc (Nat.le_refl _) _).alloc (by simp) _).alloc (by simp; omega) _) ⟨by show _ ≤ 1 + qw; omega, by show 1 + qw ≤ _; omega, by show _ ≤ 1 + qh; omega, by show 1 + qh ≤ _; omega, by show _ ≤ 2; omega, by show 2 ≤ _; omega, by intro h; show _ ≤ 2; first | omega | exact absurd h Bool.false_ne_true, by show _ ≤ 1 + qd; omega, by show 1 + qd ≤ _; omega, by show _ ≤ 1 + qr; omega, by show 1 + qr ≤ _; omega, by show _ ≤ 1 + qi; omega, by show 1 + qi ≤ _; omega, by show _ ≤ 1 + qb; omega, by show 1 + qb ≤ _; omega⟩ (by show 1 + qw ≤ _; omega) (by show 1 + qh ≤ _; omega))
    · go_enter Tryd.func14, Tryd.ntmps14
      go_wp2
      exact bodyPost_ret (v := .agg #[.int .i64 (1 + qw), .int .i64 (1 + qh), .int .i64 (1 + ql), .int .i64 (1 + qd), .int .i64 (1 + qr), .int .i64 (1 + qi), .int .i64 (1 + qb), .bool we, .bool true]) (by simp [results, Tryd.results14, go_sem]) rfl (SmallP.mk (c' := ⟨1 + qw, 1 + qh, (1 + ql), 1 + qd, 1 + qr, 1 + qi, 1 + qb, we, true⟩) ((((Below.refl _ _).alloc (Nat.le_refl _) _).alloc (by simp) _).alloc (by simp; omega) _) ⟨by show _ ≤ 1 + qw; omega, by show 1 + qw ≤ _; omega, by show _ ≤ 1 + qh; omega, by show 1 + qh ≤ _; omega, by show _ ≤ (1 + ql); omega, by show (1 + ql) ≤ _; omega, by intro h; show _ ≤ (1 + ql); first | omega | exact absurd h Bool.false_ne_true, by show _ ≤ 1 + qd; omega, by show 1 + qd ≤ _; omega, by show _ ≤ 1 + qr; omega, by show 1 + qr ≤ _; omega, by show _ ≤ 1 + qi; omega, by show 1 + qi ≤ _; omega, by show _ ≤ 1 + qb; omega, by show 1 + qb ≤ _; omega⟩ (by show 1 + qw ≤ _; omega) (by show 1 + qh ≤ _; omega))
end Go.Proofs.YtaohimmmhpmgdaaDoor
