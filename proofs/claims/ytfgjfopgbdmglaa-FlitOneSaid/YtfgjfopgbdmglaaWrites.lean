/-
  The walk of FlitWrites.
-/
import Derived.Test.YtfgjfopgbdmglaaLives
import Derived.Deep.RegionWith
import Derived.Deep.DeepCutAuto
namespace Go.Proofs.Ytfgjfopgbdmglaa
open Go.RowKit

theorem below_step {w X Y : World} (h : Below w.heap.size w X) (hb : Below X.heap.size X Y) : Below w.heap.size w Y := h.trans (hb.mono h.size)

theorem flit_block {w w1 : World} {B b : Nat} {f : Fl} (h : w.heap[b]? = some (.cells (flc f) 23 (0, 0))) (hb : Below B w w1) (hl : b < B) : w1.heap[b]? = some (.cells (flc f) 23 (0, 0)) := (hb.block b hl).trans h

/-- Two flits in two blocks, b and the next. -/
abbrev Two (b : Nat) (f g : Fl) (W : World) : Prop :=
  W.cell? ⟨b, 0, none⟩ = some (.int .i64 f.k) ∧ W.cell? ⟨b, 1, none⟩ = some (.int .i64 f.s) ∧ W.cell? ⟨b, 2, none⟩ = some (.int .i64 f.d) ∧ W.cell? ⟨b, 3, none⟩ = some (.int .i64 f.q) ∧ W.cell? ⟨b, 4, none⟩ = some (.int .i64 f.l) ∧ W.cell? ⟨b, 5, none⟩ = some (.bool f.m) ∧ W.cell? ⟨b, 6, none⟩ = some (.bool f.c) ∧ W.cell? ⟨b, 7, none⟩ = some (.string f.x) ∧ W.cell? ⟨b + 1, 0, none⟩ = some (.int .i64 g.k) ∧ W.cell? ⟨b + 1, 1, none⟩ = some (.int .i64 g.s) ∧ W.cell? ⟨b + 1, 2, none⟩ = some (.int .i64 g.d) ∧ W.cell? ⟨b + 1, 3, none⟩ = some (.int .i64 g.q) ∧ W.cell? ⟨b + 1, 4, none⟩ = some (.int .i64 g.l) ∧ W.cell? ⟨b + 1, 5, none⟩ = some (.bool g.m) ∧ W.cell? ⟨b + 1, 6, none⟩ = some (.bool g.c) ∧ W.cell? ⟨b + 1, 7, none⟩ = some (.string g.x) ∧ b + 1 < W.heap.size

theorem Two.of {b : Nat} {f g : Fl} {W : World} (h1 : W.heap[b]? = some (.cells (flc f) 23 (0, 0))) (h2 : W.heap[b + 1]? = some (.cells (flc g) 23 (0, 0))) : Two b f g W :=
  ⟨cell_of h1 0, cell_of h1 1, cell_of h1 2, cell_of h1 3, cell_of h1 4, cell_of h1 5, cell_of h1 6, cell_of h1 7, cell_of h2 0, cell_of h2 1, cell_of h2 2, cell_of h2 3, cell_of h2 4, cell_of h2 5, cell_of h2 6, cell_of h2 7, lt_of_heap h2⟩

theorem Two.below {b : Nat} {f g : Fl} {W W' : World} (hb : Below W.heap.size W W') (h : Two b f g W) : Two b f g W' := by
  obtain ⟨a0, a1, a2, a3, a4, a5, a6, a7, c0, c1, c2, c3, c4, c5, c6, c7, hz⟩ := h
  have hk : ∀ (g : Nat) (j : Nat) (v : Value), g < W.heap.size → W.cell? ⟨g, j, none⟩ = some v → W'.cell? ⟨g, j, none⟩ = some v := fun g j v hg h => (hb.cell (p := ⟨g, j, none⟩) hg).trans h
  have hz' : b < W.heap.size := by omega
  exact ⟨hk _ _ _ hz' a0, hk _ _ _ hz' a1, hk _ _ _ hz' a2, hk _ _ _ hz' a3, hk _ _ _ hz' a4, hk _ _ _ hz' a5, hk _ _ _ hz' a6, hk _ _ _ hz' a7, hk _ _ _ hz c0, hk _ _ _ hz c1, hk _ _ _ hz c2, hk _ _ _ hz c3, hk _ _ _ hz c4, hk _ _ _ hz c5, hk _ _ _ hz c6, hk _ _ _ hz c7, by have := hb.size; omega⟩

abbrev set8 (X : World) (b : Nat) (f : Fl) : World :=
  (((((((X.setCell ⟨b, 0, none⟩ (.int .i64 f.k)).setCell ⟨b, 1, none⟩ (.int .i64 f.s)).setCell ⟨b, 2, none⟩ (.int .i64 f.d)).setCell ⟨b, 3, none⟩ (.int .i64 f.q)).setCell ⟨b, 4, none⟩ (.int .i64 f.l)).setCell ⟨b, 5, none⟩ (.bool f.m)).setCell ⟨b, 6, none⟩ (.bool f.c)).setCell ⟨b, 7, none⟩ (.string f.x)

theorem set8_at {X : World} {b : Nat} {g : Fl} (h : X.heap[b]? = some (.cells (flc g) 23 (0, 0))) (f : Fl) : (set8 X b f).heap[b]? = some (.cells (flc f) 23 (0, 0)) := by
  simp [World.setCell, Array.getElem?_modify, h]
theorem set8_far {X : World} {b c : Nat} (h : b ≠ c) (f : Fl) : (set8 X b f).heap[c]? = X.heap[c]? := by
  simp [World.setCell, Array.getElem?_modify, h]
theorem set8_below {w X : World} {B b : Nat} (h : Below B w X) (hb : B ≤ b) (f : Fl) : Below B w (set8 X b f) :=
  (((((((h.setCell hb _).setCell hb _).setCell hb _).setCell hb _).setCell hb _).setCell hb _).setCell hb _).setCell hb _

/-- What the two calls of few leave. -/
theorem after_few {w w1 : World} {f g : Fl} (h1 : w1.heap[w.heap.size]? = some (.cells (flc f) 23 (0, 0))) (h2 : w1.heap[w.heap.size + 1]? = some (.cells (flc g) 23 (0, 0))) (hb : Below w.heap.size w w1) (f' g' : Fl) (a b c d : Obj) :
    Two w.heap.size f' g' (((((set8 (set8 w1 w.heap.size f') (w.heap.size + 1) g').alloc a).alloc b).alloc c).alloc d).drew ∧
    Below w.heap.size w (((((set8 (set8 w1 w.heap.size f') (w.heap.size + 1) g').alloc a).alloc b).alloc c).alloc d).drew := by
  have k1 := set8_at h1 f'
  have k2 := (set8_far (X := w1) (b := w.heap.size) (c := w.heap.size + 1) (by omega) f').trans h2
  have k3 := (set8_far (X := set8 w1 w.heap.size f') (b := w.heap.size + 1) (c := w.heap.size) (by omega) g').trans k1
  have k4 := set8_at k2 g'
  have kb := set8_below (set8_below hb (Nat.le_refl _) f') (show w.heap.size ≤ w.heap.size + 1 by omega) g'
  generalize set8 (set8 w1 w.heap.size f') (w.heap.size + 1) g' = Y at *
  have hl := lt_of_heap k4
  have al : ∀ (n : Nat) (x : Obj), n < Y.heap.size → Y.heap[n]? = some x → ((((Y.alloc a).alloc b).alloc c).alloc d).heap[n]? = some x := fun n x hn hx => by
    rw [Below.heap_alloc _ _ _ (by simp; omega), Below.heap_alloc _ _ _ (by simp; omega), Below.heap_alloc _ _ _ (by simp; omega), Below.heap_alloc _ _ _ hn]
    exact hx
  refine ⟨Two.of (al _ _ (by omega) k3) (al _ _ hl k4), below_drew ?_⟩
  exact (((kb.alloc (by omega) _).alloc (by simp; omega) _).alloc (by simp; omega) _).alloc (by simp; omega) _

set_option maxRecDepth 100000 in
set_option maxHeartbeats 3200000 in
theorem flitWrites_any (f g : Fl) (hf : f.x.size ≤ maxLen) (hg : g.x.size ≤ maxLen) (w : World) :
    Calls Try.prog 3 #[flv f, flv g] w fun e w' => e = .returned (.bool true) ∧ Below w.heap.size w w' := by
  have V := lives_any ((w.alloc (.cells (flc f) 23)).alloc (.cells (flc g) 23))
  have F1 := fun w => few_any f hf w
  have F2 := fun w => few_any g hg w
  rw [show ((w.alloc (.cells (flc f) 23)).alloc (.cells (flc g) 23)).heap.size = w.heap.size + 2 by simp] at V
  have b1 : ((w.alloc (.cells (flc f) 23)).alloc (.cells (flc g) 23)).heap[w.heap.size]? = some (.cells (flc f) 23 (0, 0)) := by
    rw [Below.heap_alloc _ _ _ (by simp)]; exact heap_alloc_new w _
  have b2 : ((w.alloc (.cells (flc f) 23)).alloc (.cells (flc g) 23)).heap[w.heap.size + 1]? = some (.cells (flc g) 23 (0, 0)) := by
    have := heap_alloc_new (w.alloc (.cells (flc f) 23)) (.cells (flc g) 23)
    rw [show (w.alloc (.cells (flc f) 23)).heap.size = w.heap.size + 1 by simp] at this
    exact this
  have B1 : Hid (((w.alloc (.cells (flc f) 23)).alloc (.cells (flc g) 23)).heap[w.heap.size]? = some (.cells (flc f) 23 (0, 0))) := b1
  have B2 : Hid (((w.alloc (.cells (flc f) 23)).alloc (.cells (flc g) 23)).heap[w.heap.size + 1]? = some (.cells (flc g) 23 (0, 0))) := b2
  clear b1 b2
  have ef : flc (fewF f) = #[.int .i64 f.k, .int .i64 f.s, .int .i64 f.d, .int .i64 f.q, .int .i64 f.l, .bool f.m, .bool f.c, .string (fewX f.x)] := rfl
  have eg : flc (fewF g) = #[.int .i64 g.k, .int .i64 g.s, .int .i64 g.d, .int .i64 g.q, .int .i64 g.l, .bool g.m, .bool g.c, .string (fewX g.x)] := rfl
  simp only [flv, ef, eg] at F1 F2
  simp only [flv, flc] at V F1 F2 ⊢
  clear ef eg
  go_enter Try.func3, Try.ntmps3
  go_wp2_with fail
  go_at_call 8
  refine V.mono ?_
  rintro e w1 ⟨rfl, hb⟩
  have hy1 := fun j => eight_at (flit_block B1.out hb (by omega)) j
  have hy2 := fun j => eight_at (flit_block B2.out hb (by omega)) j
  have y0 := (hy1 0).1
  have x0 := (hy1 0).2
  have v0 := (hy2 0).1
  have t0 := (hy2 0).2
  have y1 := (hy1 1).1
  have x1 := (hy1 1).2
  have v1 := (hy2 1).1
  have t1 := (hy2 1).2
  have y2 := (hy1 2).1
  have x2 := (hy1 2).2
  have v2 := (hy2 2).1
  have t2 := (hy2 2).2
  have y3 := (hy1 3).1
  have x3 := (hy1 3).2
  have v3 := (hy2 3).1
  have t3 := (hy2 3).2
  have y4 := (hy1 4).1
  have x4 := (hy1 4).2
  have v4 := (hy2 4).1
  have t4 := (hy2 4).2
  have y5 := (hy1 5).1
  have x5 := (hy1 5).2
  have v5 := (hy2 5).1
  have t5 := (hy2 5).2
  have y6 := (hy1 6).1
  have x6 := (hy1 6).2
  have v6 := (hy2 6).1
  have t6 := (hy2 6).2
  have y7 := (hy1 7).1
  have x7 := (hy1 7).2
  have v7 := (hy2 7).1
  have t7 := (hy2 7).2
  simp at y0 y1 y2 y3 y4 y5 y6 y7 v0 v1 v2 v3 v4 v5 v6 v7
  have hz : w.heap.size + 1 < w1.heap.size := by have := hb.size; simp at this; omega
  have hz0 : w.heap.size < w1.heap.size := by omega
  have hz1 : w.heap.size < w1.heap.size + 1 := by omega
  have hz2 : w.heap.size < w1.heap.size + 1 + 1 := by omega
  have hz3 : w.heap.size < w1.heap.size + 1 + 1 + 1 := by omega
  have hw1 : w.heap.size + 1 < w1.heap.size + 1 := by omega
  have hw2 : w.heap.size + 1 < w1.heap.size + 1 + 1 := by omega
  have hw3 : w.heap.size + 1 < w1.heap.size + 1 + 1 + 1 := by omega
  clear hy1 hy2
  have A := after_few (flit_block B1.out hb (by omega)) (flit_block B2.out hb (by omega)) ((((Below.refl _ _).alloc (Nat.le_refl _) _).alloc (by simp) _).trans (hb.mono (by omega)) : Below w.heap.size w w1) (fewF f) (fewF g)
  have HA : Hid (∀ a b c d : Obj, Two w.heap.size (fewF f) (fewF g) (((((set8 (set8 w1 w.heap.size (fewF f)) (w.heap.size + 1) (fewF g)).alloc a).alloc b).alloc c).alloc d).drew ∧
    Below w.heap.size w (((((set8 (set8 w1 w.heap.size (fewF f)) (w.heap.size + 1) (fewF g)).alloc a).alloc b).alloc c).alloc d).drew) := A
  clear A hb V
  go_upto_region 3 with fail
  go_cut [2] (fun s2 wc => s2 = .pointer (some ⟨w.heap.size, 0, none⟩) ∧ Hid (Two w.heap.size (fewF f) (fewF g) wc ∧ Below w.heap.size w wc))
  case first =>
    go_region_with (first
      | (go_at_call 9; (with_reducible refine (F1 _).mono ?_); rintro e w' ⟨rfl, rfl⟩)
      | (go_at_call 9; (with_reducible refine (F2 _).mono ?_); rintro e w' ⟨rfl, rfl⟩))
    all_goals (go_wp2_with fail; go_meet; exact ⟨rfl, HA.out _ _ _ _⟩)
  case rest =>
    obtain ⟨rfl, hT⟩ := hcut
    clear F1 F2 HA B1 B2 x0 x1 x2 x3 x4 x5 x6 x7 t0 t1 t2 t3 t4 t5 t6 t7 y0 y1 y2 y3 y4 y5 y6 y7 v0 v1 v2 v3 v4 v5 v6 v7 hz0 hz1 hz2 hz3 hw1 hw2 hw3 hz
    obtain ⟨F, hF⟩ : ∃ F, F = fewF f := ⟨_, rfl⟩
    obtain ⟨G, hG⟩ : ∃ G, G = fewF g := ⟨_, rfl⟩
    rw [← hF, ← hG] at hT
    clear hF hG
    have Wr := fun w => fwrite_any F w
    have Rw := fun w => rwrite_any F w
    have Ri := fun w => fright_any F w
    have Rr := fun w => rfright_any F w
    have Sa := fun w => fsame_any F G w
    have Eq := run_eq_flit F G
    have Gd := Try.flitGuard
    generalize F.wordR = pe at *
    obtain ⟨p, ee⟩ := pe
    generalize F.rightB = b at *
    generalize F.eqB G = q at *
    simp only [flv, flc] at Wr Rw Ri Rr Sa Eq
    obtain ⟨T1, hb1⟩ := hT.out
    have HT1 : Hid (Two w.heap.size F G wc) := T1
    have HB1 : Hid (Below w.heap.size w wc) := hb1
    obtain ⟨a0, a1, a2, a3, a4, a5, a6, a7, c0, c1, c2, c3, c4, c5, c6, c7, hz⟩ := T1
    clear hT hb1
    go_wp2_with fail
    go_at_call 10
    refine (Wr _).mono ?_
    rintro e w2 ⟨rfl, hb2⟩
    clear a0 a1 a2 a3 a4 a5 a6 a7 c0 c1 c2 c3 c4 c5 c6 c7 hz
    have T2 := Two.below hb2 HT1.out
    have HT2 : Hid (Two w.heap.size F G w2) := T2
    have HB2 : Hid (Below w.heap.size w w2) := HB1.out.trans (hb2.mono (by have := HB1.out.size; omega))
    obtain ⟨a0, a1, a2, a3, a4, a5, a6, a7, c0, c1, c2, c3, c4, c5, c6, c7, hz⟩ := T2
    clear hb2 Wr
    go_wp2_with fail
    go_at_call 11
    refine (Rw _).mono ?_
    rintro e w3 ⟨rfl, hb3⟩
    clear a0 a1 a2 a3 a4 a5 a6 a7 c0 c1 c2 c3 c4 c5 c6 c7 hz
    have T3 := Two.below hb3 HT2.out
    have HB3 : Hid (Below w.heap.size w w3) := HB2.out.trans (hb3.mono (by have := HB2.out.size; omega))
    have HT3 : Hid (Two w.heap.size F G w3) := T3
    obtain ⟨a0, a1, a2, a3, a4, a5, a6, a7, c0, c1, c2, c3, c4, c5, c6, c7, hz⟩ := T3
    clear hb3 Rw
    have HB3' : Hid (Below w.heap.size w w3.drew) := below_drew HB3.out
    have hT3 : Two w.heap.size F G w3.drew := HT3.out
    cases b
    all_goals
      cases q
      all_goals
        go_wp2_with fail
        go_region_held3 (fun w' => w'.cell? ⟨w.heap.size, 0, none⟩ = some (.int .i64 F.k) ∧ w'.cell? ⟨w.heap.size, 1, none⟩ = some (.int .i64 F.s) ∧ w'.cell? ⟨w.heap.size, 2, none⟩ = some (.int .i64 F.d) ∧ w'.cell? ⟨w.heap.size, 3, none⟩ = some (.int .i64 F.q) ∧ w'.cell? ⟨w.heap.size, 4, none⟩ = some (.int .i64 F.l) ∧ w'.cell? ⟨w.heap.size, 5, none⟩ = some (.bool F.m) ∧ w'.cell? ⟨w.heap.size, 6, none⟩ = some (.bool F.c) ∧ w'.cell? ⟨w.heap.size, 7, none⟩ = some (.string F.x) ∧ w'.cell? ⟨w.heap.size + 1, 0, none⟩ = some (.int .i64 G.k) ∧ w'.cell? ⟨w.heap.size + 1, 1, none⟩ = some (.int .i64 G.s) ∧ w'.cell? ⟨w.heap.size + 1, 2, none⟩ = some (.int .i64 G.d) ∧ w'.cell? ⟨w.heap.size + 1, 3, none⟩ = some (.int .i64 G.q) ∧ w'.cell? ⟨w.heap.size + 1, 4, none⟩ = some (.int .i64 G.l) ∧ w'.cell? ⟨w.heap.size + 1, 5, none⟩ = some (.bool G.m) ∧ w'.cell? ⟨w.heap.size + 1, 6, none⟩ = some (.bool G.c) ∧ w'.cell? ⟨w.heap.size + 1, 7, none⟩ = some (.string G.x) ∧ w.heap.size + 1 < w'.heap.size)
          (first | exact T6 | exact T5 | exact T4 | exact hT3 | go_keep)
          (first
            | (go_at_call 12; (with_reducible refine (Ri _).mono ?_); rintro e w4 ⟨rfl, hb4⟩; have T4 := Two.below hb4 hT3)
            | (go_at_call 13; (with_reducible refine (Rr _).mono ?_); rintro e w5 ⟨rfl, hb5⟩; have T5 := Two.below hb5 T4)
            | (go_at_call 14; (with_reducible refine (Sa _).mono ?_); rintro e w6 ⟨rfl, hb6⟩; have T6 := Two.below hb6 T5))
        go_wp2
        go_ret
        exact ⟨rfl, below_step (below_step (below_step HB3'.out hb4) hb5) hb6⟩
end Go.Proofs.Ytfgjfopgbdmglaa
