/-
  Small as a struct written out; the walk of reticuleref05.Node; what walks of grid ask of a law's world.
-/
import Derived.Test.YtaohimmmhpmgdaaDoorBlk
import Derived.Test.YtaohimmmhpmgdaaDoorSmall
import Derived.Test.YtaohimmmhpmgdaaDoorBeside
namespace Go.Proofs.YtaohimmmhpmgdaaDoor
open Go.RowKit

theorem Wk.steps {w v : World} {c : Cf} {A : Array Value} {t : TypeId} (h : Wk w c A t v) (hS : Steps w) : Steps v := hS.next h.2.2
theorem W1.steps {w v : World} {c : Cf} (h : W1 w c v) (hS : Steps w) : Steps v := hS.next h.2

theorem small_form (c : Cf) (w : World) : Calls Tryd.prog 14 #[cfv c] w fun e w' => ∃ dw dh dl dd dr di db de da, e = .returned (.agg #[.int .i64 dw, .int .i64 dh, .int .i64 dl, .int .i64 dd, .int .i64 dr, .int .i64 di, .int .i64 db, .bool de, .bool da]) ∧ Below w.heap.size w w' ∧ Fits ⟨dw, dh, dl, dd, dr, di, db, de, da⟩ ∧ dw ≤ 4 ∧ dh ≤ 4 :=
  (small_any c w).mono fun _ _ ⟨c', he, hb, f, a, b⟩ => ⟨c'.w, c'.h, c'.l, c'.d, c'.r, c'.i, c'.b, c'.we, c'.ca, he, hb, f, a, b⟩

theorem outB_in {lo hi x : Int} (h1 : lo ≤ x) (h2 : x ≤ hi) : outB lo hi x = false := by
  unfold outB
  simp only [Bool.or_eq_false_iff, decide_eq_false_iff_not]
  omega
theorem chk_fits {c : Cf} (f : Fits c) : chk c = 0 := by
  have e1 : t1 c = false := by unfold t1; rw [outB_in f.w1 f.w2, outB_in f.h1 f.h2]; rfl
  have e2 : t2 c = false := by
    unfold t2
    apply outB_in
    · cases h : c.ca
      · simp [f.l1]
      · simp [f.lc h]
    · exact f.l2
  have e3 : t3 c = false := by unfold t3; rw [outB_in f.d1 f.d2, outB_in f.r1 f.r2, outB_in f.i1 f.i2]; rfl
  have e4 : t4 c = false := by unfold t4; rw [outB_in f.b1 f.b2]
  unfold chk
  rw [e1, e2, e3, e4]
  rfl

/-- A node that is there, made of any number. -/
def nde (c : Cf) (n : Int) : Int := (IntKind.u64.wrap n).tmod (nod c)
theorem nde_in {c : Cf} (h : chk c = 0) (n : Int) : isN c (nde c n) = true := by
  have f := fits_of h
  have hm := mul_in f.w1 f.w2 f.h1 f.h2
  obtain ⟨q, e, h0, h1⟩ := tm_in n (nod c) (by rw [nod_of h]; omega)
  unfold nde
  rw [e]
  unfold isN
  simp [h0, h1]

theorem node_any (c : Cf) (h : chk c = 0) (n : Int) (w : World) : Calls Tryd.prog 15 #[cfv c, .int .i64 n] w fun e w' => e = .returned (.int .i64 (nde c n)) ∧ Below w.heap.size w w' := by
  have K := rnodes_any c
  have A0 : Hid (At w c (w.alloc (.cells (cfc c) 29))) := At.start w c
  have f := fits_of h
  have hm := mul_in f.w1 f.w2 f.h1 f.h2
  obtain ⟨q, e, h0, h1⟩ := tm_in n (nod c) (by rw [nod_of h]; omega)
  unfold nde
  rw [e]
  rw [← nod_of h] at hm
  generalize nod c = N at *
  obtain ⟨m1, m2⟩ := hm
  have hq : q ≤ 4096 := by omega
  clear f h
  obtain ⟨cw, ch, cl, cd, cr, ci, cb, we, ca⟩ := c
  simp only [cfv, cfc] at *
  go_enter Tryd.func15, Tryd.ntmps15
  go_wp2_with fail
  go_at_call 28
  refine (K _).mono ?_
  rintro e v1 ⟨rfl, hb⟩
  have HA1 : Hid (At w _ v1) := A0.out.trans hb
  clear hb K
  go_wp2
  go_ret
  exact ⟨rfl, HA1.out.below⟩
end Go.Proofs.YtaohimmmhpmgdaaDoor
