/-
  The contracts of Check, Nodes, Is, Place and At once more, with 'the count of draws is no less' beside Below; the walks of snake's turned, Label and Node over them. (Written by gen_gr.py out of the texts Cfg, Check, Nodes, Place.)
-/
import Derived.Test.YtcebfkkpclnmoaaDoorPlace
import Derived.Test.YtcebfkkpclnmoaaDoorSPlain
import Derived.Sort.Grow
namespace Go.Proofs.YtcebfkkpclnmoaaDoor.Gr
open Go.RowKit

/-- Below, and the count of draws is no less. -/
structure Below (B : Nat) (w w' : World) : Prop where
  os : w'.os = w.os
  tape : w'.tape = w.tape
  output : w'.output = w.output
  size : w.heap.size ≤ w'.heap.size
  block : ∀ k, k < B → w'.heap[k]? = w.heap[k]?
  drawn : w.drawn ≤ w'.drawn
theorem Below.plain {B : Nat} {w w' : World} (h : Below B w w') : Go.RowKit.Below B w w' := ⟨h.os, h.tape, h.output, h.size, h.block⟩
theorem Below.refl (B : Nat) (w : World) : Below B w w := ⟨rfl, rfl, rfl, Nat.le_refl _, fun _ _ => rfl, Nat.le_refl _⟩
theorem Below.trans {B : Nat} {a b c : World} (h : Below B a b) (k : Below B b c) : Below B a c :=
  ⟨k.os.trans h.os, k.tape.trans h.tape, k.output.trans h.output, Nat.le_trans h.size k.size, fun i hi => (k.block i hi).trans (h.block i hi), Nat.le_trans h.drawn k.drawn⟩
theorem Below.mono {B B' : Nat} {w w' : World} (h : Below B w w') (hB : B' ≤ B) : Below B' w w' := ⟨h.os, h.tape, h.output, h.size, fun k hk => h.block k (Nat.lt_of_lt_of_le hk hB), h.drawn⟩
theorem Below.drewN {B : Nat} {a w : World} (h : Below B a w) (n : Nat) : Below B a (w.drewN n) := ⟨h.os, h.tape, h.output, h.size, h.block, Nat.le_trans h.drawn (Nat.le_add_right _ _)⟩
theorem Below.alloc {B : Nat} {a w : World} (h : Below B a w) (hB : B ≤ w.heap.size) (o : Obj) : Below B a (w.alloc o) :=
  h.trans ⟨rfl, rfl, rfl, by simp, fun k hk => Go.RowKit.Below.heap_alloc _ _ _ (by omega), Nat.le_refl _⟩
theorem Below.cell {B : Nat} {w w' : World} (h : Below B w w') {p : Addr} (hp : p.block < B) : w'.cell? p = w.cell? p := h.plain.cell hp
/-- New blocks alone, and draws. -/
theorem Below.grow {w w' : World} (h : Below w.heap.size w w') : ∃ q os, w' = Go.Sort.grow (w.drewN q) os := by
  refine ⟨w'.drawn - w.drawn, w'.heap.extract w.heap.size w'.heap.size, ?_⟩
  have e1 : w'.heap = w.heap ++ w'.heap.extract w.heap.size w'.heap.size := by
    apply Array.ext_getElem?
    intro k
    by_cases hk : k < w.heap.size
    · rw [h.block k hk, Array.getElem?_append_left hk]
    · rw [Array.getElem?_append_right (by omega), Array.getElem?_extract]
      have hs := h.size
      split
      · rw [show w.heap.size + (k - w.heap.size) = k by omega]
      · rw [Array.getElem?_eq_none (by omega)]
  have e2 : w.drawn + (w'.drawn - w.drawn) = w'.drawn := by have := h.drawn; omega
  obtain ⟨h1, h2, h3, h4, h5⟩ := w'
  have g1 := h.os
  have g2 := h.tape
  have g3 := h.output
  simp only at g1 g2 g3 e1 e2
  unfold Go.Sort.grow World.drewN
  simp only [← e1, e2, g1, g2, g3]

theorem within_any (lo hi : Int) (b : Nat) (zs : List Int) (n c : Nat) (w : World) (hz : zs.length ≤ 100) (hn : zs.length = n) (hb : b < w.heap.size) (hc : ∀ j, j < zs.length → w.cell? ⟨b, j, none⟩ = some (.int .i64 (zs.getD j 0))) :
    Calls Tryd.prog 61 #[.int .i64 lo, .int .i64 hi, .slice (some ⟨b, 0, none⟩) n c] w fun e w' => e = .returned (.bool (!(zs.any (outB lo hi)))) ∧ Below w.heap.size w w' := by
  subst hn
  have b0 : Hid (Below w.heap.size w ((w.alloc (.cells #[.int .i64 lo] 3)).alloc (.cells #[.int .i64 hi] 3))) := ((Below.refl _ _).alloc (Nat.le_refl _) _).alloc (by simp) _
  have K := contains_any lo hi b zs c ⟨w.heap.size, 0, none⟩ ⟨w.heap.size + 1, 0, none⟩ ((w.alloc (.cells #[.int .i64 lo] 3)).alloc (.cells #[.int .i64 hi] 3)) (by go_simp) (by go_simp) hz
    (fun j hj => by rw [b0.out.cell (p := ⟨b, j, none⟩) hb]; exact hc j hj)
  clear hc
  generalize zs.any (outB lo hi) = t at *
  generalize zs.length = n at *
  go_enter Tryd.func61, Tryd.ntmps61
  go_wp2_with (go_at_call 54; (with_reducible refine K.mono ?_); rintro e w' ⟨rfl, rfl⟩)
  go_ret
  exact ⟨rfl, b0.out⟩

/-- One number, two, three. -/
theorem within1 (lo hi x : Int) (b c : Nat) (w : World) (hb : b < w.heap.size) (h0 : w.cell? ⟨b, 0, none⟩ = some (.int .i64 x)) :
    Calls Tryd.prog 61 #[.int .i64 lo, .int .i64 hi, .slice (some ⟨b, 0, none⟩) 1 c] w fun e w' => e = .returned (.bool (!(outB lo hi x))) ∧ Below w.heap.size w w' := by
  have h := within_any lo hi b [x] 1 c w (by simp) rfl hb (fun j hj => by
    have : j < 1 := hj
    obtain rfl : j = 0 := by omega
    exact h0)
  simpa using h
theorem within2 (lo hi x y : Int) (b c : Nat) (w : World) (hb : b < w.heap.size) (h0 : w.cell? ⟨b, 0, none⟩ = some (.int .i64 x)) (h1 : w.cell? ⟨b, 1, none⟩ = some (.int .i64 y)) :
    Calls Tryd.prog 61 #[.int .i64 lo, .int .i64 hi, .slice (some ⟨b, 0, none⟩) 2 c] w fun e w' => e = .returned (.bool (!(outB lo hi x || outB lo hi y))) ∧ Below w.heap.size w w' := by
  have h := within_any lo hi b [x, y] 2 c w (by simp) rfl hb (fun j hj => by
    have : j < 2 := hj
    rcases (by omega : j = 0 ∨ j = 1) with rfl | rfl
    · exact h0
    · exact h1)
  simpa using h
theorem within3 (lo hi x y z : Int) (b c : Nat) (w : World) (hb : b < w.heap.size) (h0 : w.cell? ⟨b, 0, none⟩ = some (.int .i64 x)) (h1 : w.cell? ⟨b, 1, none⟩ = some (.int .i64 y)) (h2 : w.cell? ⟨b, 2, none⟩ = some (.int .i64 z)) :
    Calls Tryd.prog 61 #[.int .i64 lo, .int .i64 hi, .slice (some ⟨b, 0, none⟩) 3 c] w fun e w' => e = .returned (.bool (!(outB lo hi x || outB lo hi y || outB lo hi z))) ∧ Below w.heap.size w w' := by
  have h := within_any lo hi b [x, y, z] 3 c w (by simp) rfl hb (fun j hj => by
    have : j < 3 := hj
    rcases (by omega : j = 0 ∨ j = 1 ∨ j = 2) with rfl | rfl | rfl
    · exact h0
    · exact h1
    · exact h2)
  simpa [Bool.or_assoc] using h

/-- Block number w.heap.size holds the config; what lay below it lies. -/
def At (w : World) (c : Cf) (v : World) : Prop := Below (w.heap.size + 1) (w.alloc (.cells (cfc c) 23)) v
theorem At.start (w : World) (c : Cf) : At w c (w.alloc (.cells (cfc c) 23)) := Below.refl _ _
theorem At.cell {w v : World} {c : Cf} (h : At w c v) (j : Nat) : v.cell? ⟨w.heap.size, j, none⟩ = (cfc c)[j]? := by
  rw [Below.cell h (p := ⟨w.heap.size, j, none⟩) (by simp), World.cell?_alloc_at _ _ _ _ rfl]
theorem At.size {w v : World} {c : Cf} (h : At w c v) : w.heap.size + 1 ≤ v.heap.size := by
  have := Below.size h
  simpa using this
theorem At.trans {w v v' : World} {c : Cf} (h : At w c v) (hb : Below v.heap.size v v') : At w c v' := Below.trans h (hb.mono h.size)
theorem At.alloc {w v : World} {c : Cf} (h : At w c v) (o : Obj) : At w c (v.alloc o) := Below.alloc h h.size o
theorem At.below {w v : World} {c : Cf} (h : At w c v) : Below w.heap.size w v :=
  ((Below.refl _ _).alloc (Nat.le_refl _) _).trans (Below.mono h (by omega))
/-- All nine. -/
theorem At.cells {w v : World} {c : Cf} (h : At w c v) :
    v.cell? ⟨w.heap.size, 0, none⟩ = some (.int .i64 c.w) ∧ v.cell? ⟨w.heap.size, 1, none⟩ = some (.int .i64 c.h) ∧ v.cell? ⟨w.heap.size, 2, none⟩ = some (.int .i64 c.l) ∧
    v.cell? ⟨w.heap.size, 3, none⟩ = some (.int .i64 c.d) ∧ v.cell? ⟨w.heap.size, 4, none⟩ = some (.int .i64 c.r) ∧ v.cell? ⟨w.heap.size, 5, none⟩ = some (.int .i64 c.i) ∧
    v.cell? ⟨w.heap.size, 6, none⟩ = some (.int .i64 c.b) ∧ v.cell? ⟨w.heap.size, 7, none⟩ = some (.bool c.we) ∧ v.cell? ⟨w.heap.size, 8, none⟩ = some (.bool c.ca) :=
  ⟨h.cell 0, h.cell 1, h.cell 2, h.cell 3, h.cell 4, h.cell 5, h.cell 6, h.cell 7, h.cell 8⟩

set_option maxHeartbeats 1000000 in
theorem check_any (c : Cf) (w : World) : Calls Tryd.prog 55 #[cfv c] w fun e w' => e = .returned (.int .i64 (chk c)) ∧ Below w.heap.size w w' := by
  have K1 := within2 1 64 c.w c.h
  have K2 := within1 (if c.ca then 2 else 1) 8 c.l
  have K3 := within3 1 64 c.d c.r c.i
  have K4 := within1 1 16 c.b
  unfold chk
  change ∀ b cc w, _ → _ → _ → Calls _ _ _ _ (fun e w' => e = .returned (.bool (!(t1 c))) ∧ _) at K1
  change ∀ b cc w, _ → _ → Calls _ _ _ _ (fun e w' => e = .returned (.bool (!(t2 c))) ∧ _) at K2
  change ∀ b cc w, _ → _ → _ → _ → Calls _ _ _ _ (fun e w' => e = .returned (.bool (!(t3 c))) ∧ _) at K3
  change ∀ b cc w, _ → _ → Calls _ _ _ _ (fun e w' => e = .returned (.bool (!(t4 c))) ∧ _) at K4
  generalize t1 c = T1 at *
  generalize t2 c = T2 at *
  generalize t3 c = T3 at *
  generalize t4 c = T4 at *
  have A0 : Hid (At w c (w.alloc (.cells (cfc c) 23))) := At.start w c
  have sz : Hid ((w.alloc (.cells (cfc c) 23)).heap.size = w.heap.size + 1) := by simp [Hid]
  obtain ⟨cw, ch, cl, cd, cr, ci, cb, we, ca⟩ := c
  simp only [cfv, cfc] at *
  cases ca
  all_goals
    simp only [if_true, if_false, Bool.false_eq_true] at K2
    go_enter Tryd.func55, Tryd.ntmps55
    go_wp2_with fail
    go_at_call 61
    refine (K1 _ _ _ (by simp) (by go_simp) (by go_simp)).mono ?_
    rintro e v1 ⟨rfl, hb⟩
    have A1 := (A0.out.alloc _).trans hb
    clear hb K1
    obtain ⟨-, -, x2, x3, x4, x5, x6, -, -⟩ := A1.cells
    have Z1 : w.heap.size < v1.heap.size := by have := A1.size; omega
    have HA1 : Hid (At w _ v1) := A1
    clear A1
    cases T1 with
    | true =>
      go_wp2
      go_ret
      exact ⟨rfl, HA1.out.below⟩
    | false =>
      go_wp2_with fail
      go_at_call 61
      refine (K2 _ _ _ (by simp) (by go_simp)).mono ?_
      rintro e v2 ⟨rfl, hb⟩
      clear x2 x3 x4 x5 x6 Z1 K2
      have A2 := (HA1.out.alloc _).trans hb
      clear hb
      obtain ⟨-, -, -, x3, x4, x5, x6, -, -⟩ := A2.cells
      have Z2 : w.heap.size < v2.heap.size := by have := A2.size; omega
      have HA2 : Hid (At w _ v2) := A2
      clear A2 HA1
      cases T2 with
      | true =>
        go_wp2
        go_ret
        exact ⟨rfl, HA2.out.below⟩
      | false =>
        go_wp2_with fail
        go_at_call 61
        refine (K3 _ _ _ (by simp) (by go_simp) (by go_simp) (by go_simp)).mono ?_
        rintro e v3 ⟨rfl, hb⟩
        clear x3 x4 x5 x6 Z2 K3
        have A3 := (HA2.out.alloc _).trans hb
        clear hb
        obtain ⟨-, -, -, -, -, -, x6, -, -⟩ := A3.cells
        have Z3 : w.heap.size < v3.heap.size := by have := A3.size; omega
        have HA3 : Hid (At w _ v3) := A3
        clear A3 HA2
        cases T3 with
        | true =>
          go_wp2
          go_ret
          exact ⟨rfl, HA3.out.below⟩
        | false =>
          go_wp2_with fail
          go_at_call 61
          refine (K4 _ _ _ (by simp) (by go_simp)).mono ?_
          rintro e v4 ⟨rfl, hb⟩
          clear x6 Z3 K4
          have A4 := (HA3.out.alloc _).trans hb
          have HA4 : Hid (At w _ v4) := A4
          clear A4 HA3 hb
          cases T4 with
          | true =>
            go_wp2
            go_ret
            exact ⟨rfl, HA4.out.below⟩
          | false =>
            go_wp2
            go_ret
            exact ⟨rfl, HA4.out.below⟩

theorem nodes_any (c : Cf) (w : World) : Calls Tryd.prog 52 #[cfv c] w fun e w' => e = .returned (.int .i64 (nod c)) ∧ Below w.heap.size w w' := by
  have K := check_any c
  have F := fun h => @fits_of c h
  have A0 : Hid (At w c (w.alloc (.cells (cfc c) 23))) := At.start w c
  unfold nod
  rcases chk_cases c with h | h | h
  · have f := F h
    have hm := mul_in f.w1 f.w2 f.h1 f.h2
    rw [if_pos h]
    rw [h] at K
    clear F h f
    obtain ⟨cw, ch, cl, cd, cr, ci, cb, we, ca⟩ := c
    simp only [cfv, cfc] at *
    obtain ⟨M, hM⟩ : ∃ M : Int, M = cw * ch := ⟨_, rfl⟩
    have HM : Hid (M = cw * ch) := hM
    rw [← hM] at hm ⊢
    obtain ⟨m1, m2⟩ := hm
    clear hM
    go_enter Tryd.func52, Tryd.ntmps52
    go_wp2_with fail
    go_at_call 55
    refine (K _).mono ?_
    rintro e v1 ⟨rfl, hb⟩
    have A1 := A0.out.trans hb
    clear hb K
    obtain ⟨x0, x1, -, -, -, -, -, -, -⟩ := A1.cells
    have HA1 : Hid (At w _ v1) := A1
    clear A1
    go_wp2
    go_ret
    exact ⟨ret_int (by rw [← HM.out]; exact IntWalk.wrap64_in _ (by omega)), HA1.out.below⟩
  all_goals
    have h0 : ¬ chk c = 0 := by rw [h]; decide
    rw [if_neg h0]
    rw [h] at K
    clear F h h0
    obtain ⟨cw, ch, cl, cd, cr, ci, cb, we, ca⟩ := c
    simp only [cfv, cfc] at *
    go_enter Tryd.func52, Tryd.ntmps52
    go_wp2_with fail
    go_at_call 55
    refine (K _).mono ?_
    rintro e v1 ⟨rfl, hb⟩
    have HA1 : Hid (At w _ v1) := A0.out.trans hb
    clear hb K
    go_wp2
    go_ret
    exact ⟨rfl, HA1.out.below⟩

theorem At.drewN {w v : World} {c : Cf} (h : At w c v) (n : Nat) : At w c (v.drewN n) := Below.drewN h n
theorem At.drew {w v : World} {c : Cf} (h : At w c v) : At w c v.drew := Below.drewN h 1

theorem is_any (c : Cf) (n : Int) (w : World) : Calls Tryd.prog 39 #[cfv c, .int .i64 n] w fun e w' => e = .returned (.bool (isN c n)) ∧ Below w.heap.size w w' := by
  have K := nodes_any c
  have I := isBelow_any n (nod c)
  have A0 : Hid (At w c (w.alloc (.cells (cfc c) 23))) := At.start w c
  unfold isN
  generalize nod c = M at *
  generalize (decide (0 ≤ n) && decide (n < M)) = t at *
  obtain ⟨cw, ch, cl, cd, cr, ci, cb, we, ca⟩ := c
  simp only [cfv, cfc] at *
  go_enter Tryd.func39, Tryd.ntmps39
  go_wp2_with fail
  go_at_call 52
  refine (K _).mono ?_
  rintro e v1 ⟨rfl, hb⟩
  have HA1 : Hid (At w _ v1) := A0.out.trans hb
  clear hb K
  go_wp2_with fail
  go_at_call 45
  refine (I _).mono ?_
  rintro e v2 ⟨rfl, rfl⟩
  go_wp2
  go_ret
  exact ⟨rfl, HA1.out.below⟩

theorem place_any (c : Cf) (n : Int) (w : World) : Calls Tryd.prog 41 #[cfv c, .int .i64 n] w fun e w' => e = .returned (.tuple #[.int .i64 (plx c n), .int .i64 (ply c n), .int .i64 (ple c n)]) ∧ Below w.heap.size w w' := by
  have K := is_any c n
  have A0 : Hid (At w c (w.alloc (.cells (cfc c) 23))) := At.start w c
  cases h : isN c n with
  | true =>
    obtain ⟨hc, h0, h1⟩ := isN_ok h
    have f := fits_of hc
    have ex : (n.tmod c.w) = plx c n := by rw [Int.tmod_eq_emod_of_nonneg h0]; unfold plx; rw [if_pos h]
    have ey : (n.tdiv c.w) = ply c n := by rw [Int.tdiv_eq_ediv_of_nonneg h0]; unfold ply; rw [if_pos h]
    have ee : ple c n = 0 := by unfold ple; rw [if_pos h]
    have px := plx_in c n
    have py := ply_in c n
    have w1 := f.w1
    have w2 := f.w2
    have hn := (isN_lt h).2
    rw [ee]
    rw [h] at K
    generalize plx c n = X at *
    generalize ply c n = Y at *
    clear ee hc h1 f h
    obtain ⟨cw, ch, cl, cd, cr, ci, cb, we, ca⟩ := c
    simp only [cfv, cfc] at *
    go_enter Tryd.func41, Tryd.ntmps41
    go_wp2_with fail
    go_at_call 39
    refine (K _).mono ?_
    rintro e v1 ⟨rfl, hb⟩
    have A1 := A0.out.trans hb
    clear hb K
    obtain ⟨x0, -, -, -, -, -, -, -, -⟩ := A1.cells
    have HA1 : Hid (At w _ v1) := A1
    have BB : Hid (∀ n, Below w.heap.size w (v1.drewN n)) := fun n => (A1.drewN n).below
    clear A1
    simp only at x0
    go_wp2_with fail
    go_quiet (fail)
    go_wp2
    go_ret3
    exact ⟨rfl, by first | exact BB.out _ | exact BB.out 1 | exact HA1.out.below⟩
  | false =>
    have ex : plx c n = 0 := by unfold plx; rw [h]; rfl
    have ey : ply c n = 0 := by unfold ply; rw [h]; rfl
    have ee : ple c n = 5 := by unfold ple; rw [h]; rfl
    rw [ex, ey, ee]
    rw [h] at K
    clear ex ey ee h
    obtain ⟨cw, ch, cl, cd, cr, ci, cb, we, ca⟩ := c
    simp only [cfv, cfc] at *
    go_enter Tryd.func41, Tryd.ntmps41
    go_wp2_with fail
    go_at_call 39
    refine (K _).mono ?_
    rintro e v1 ⟨rfl, hb⟩
    have HA1 : Hid (At w _ v1) := A0.out.trans hb
    clear hb K
    go_wp2
    go_ret3
    exact ⟨rfl, HA1.out.below⟩

theorem at_any (c : Cf) (x y : Int) (w : World) : Calls Tryd.prog 43 #[cfv c, .int .i64 x, .int .i64 y] w fun e w' => e = .returned (.tuple #[.int .i64 (atn c x y), .int .i64 (ate c x y)]) ∧ Below w.heap.size w w' := by
  have K := check_any c
  have I := isBelow_any x c.w
  have J := isBelow_any y c.h
  have A0 : Hid (At w c (w.alloc (.cells (cfc c) 23))) := At.start w c
  cases h : inP c x y with
  | true =>
    obtain ⟨hc, h1, h2, h3, h4⟩ := inP_ok h
    obtain ⟨g1, g2, g3, g4⟩ := node_in h
    have f := fits_of hc
    have ea : atn c x y = y * c.w + x := by unfold atn; rw [if_pos h]
    have ee : ate c x y = 0 := by unfold ate; rw [if_pos h]
    rw [ea, ee]
    rw [hc] at K
    rw [show (decide (0 ≤ x) && decide (x < c.w)) = true by simp [h1, h2]] at I
    rw [show (decide (0 ≤ y) && decide (y < c.h)) = true by simp [h3, h4]] at J
    have hx : x ≤ 63 := by have := f.w2; omega
    have hy : y ≤ 63 := by have := f.h2; omega
    clear ea ee hc f h h2 h4 g2 g4
    obtain ⟨cw, ch, cl, cd, cr, ci, cb, we, ca⟩ := c
    simp only [cfv, cfc] at *
    obtain ⟨M, hM⟩ : ∃ M : Int, y * cw = M := ⟨_, rfl⟩
    rw [hM] at g1 g3 ⊢
    have HM : Hid (y * cw = M) := hM
    clear hM
    go_enter Tryd.func43, Tryd.ntmps43
    go_wp2_with fail
    go_at_call 55
    refine (K _).mono ?_
    rintro e v1 ⟨rfl, hb⟩
    have A1 := A0.out.trans hb
    clear hb K
    obtain ⟨x0, x1, -, -, -, -, -, -, -⟩ := A1.cells
    have HA1 : Hid (At w _ v1) := A1
    clear A1
    simp only at x0 x1
    go_wp2_with fail
    go_at_call 45
    refine (I _).mono ?_
    rintro e v2 ⟨rfl, rfl⟩
    go_wp2_with fail
    go_at_call 45
    refine (J _).mono ?_
    rintro e v2 ⟨rfl, rfl⟩
    clear I J
    have hM := HM.out
    go_wp2
    go_ret2
    exact ⟨rfl, HA1.out.below⟩
  | false =>
    have ea : atn c x y = 0 := by unfold atn; rw [h]; rfl
    have ee : ate c x y = 5 := by unfold ate; rw [h]; rfl
    rw [ea, ee]
    clear ea ee
    unfold inP at h
    have h' : chk c = 0 → (decide (0 ≤ x) && decide (x < c.w)) = true → (decide (0 ≤ y) && decide (y < c.h)) = false := fun hc hx => by
      rw [hx] at h
      simpa [hc] using h
    clear h
    rcases chk_cases c with hc | hc | hc
    · have h' := h' hc
      rw [hc] at K
      clear hc
      obtain ⟨cw, ch, cl, cd, cr, ci, cb, we, ca⟩ := c
      simp only [cfv, cfc] at *
      generalize (decide (0 ≤ x) && decide (x < cw)) = s at *
      generalize (decide (0 ≤ y) && decide (y < ch)) = t at *
      cases s with
      | true =>
        obtain rfl := h' rfl
        clear h'
        go_enter Tryd.func43, Tryd.ntmps43
        go_wp2_with fail
        go_at_call 55
        refine (K _).mono ?_
        rintro e v1 ⟨rfl, hb⟩
        have A1 := A0.out.trans hb
        clear hb K
        obtain ⟨x0, x1, -, -, -, -, -, -, -⟩ := A1.cells
        have HA1 : Hid (At w _ v1) := A1
        clear A1
        simp only at x0 x1
        go_wp2_with fail
        go_at_call 45
        refine (I _).mono ?_
        rintro e v2 ⟨rfl, rfl⟩
        go_wp2_with fail
        go_at_call 45
        refine (J _).mono ?_
        rintro e v2 ⟨rfl, rfl⟩
        clear I J
        go_wp2
        go_ret2
        exact ⟨rfl, HA1.out.below⟩
      | false =>
        clear h' J
        go_enter Tryd.func43, Tryd.ntmps43
        go_wp2_with fail
        go_at_call 55
        refine (K _).mono ?_
        rintro e v1 ⟨rfl, hb⟩
        have A1 := A0.out.trans hb
        clear hb K
        obtain ⟨x0, x1, -, -, -, -, -, -, -⟩ := A1.cells
        have HA1 : Hid (At w _ v1) := A1
        clear A1
        simp only at x0 x1
        go_wp2_with fail
        go_at_call 45
        refine (I _).mono ?_
        rintro e v2 ⟨rfl, rfl⟩
        clear I
        go_wp2
        go_ret2
        exact ⟨rfl, HA1.out.below⟩
    all_goals
      rw [hc] at K
      clear h' hc I J
      obtain ⟨cw, ch, cl, cd, cr, ci, cb, we, ca⟩ := c
      simp only [cfv, cfc] at *
      go_enter Tryd.func43, Tryd.ntmps43
      go_wp2_with fail
      go_at_call 55
      refine (K _).mono ?_
      rintro e v1 ⟨rfl, hb⟩
      have HA1 : Hid (At w _ v1) := A0.out.trans hb
      clear hb K
      go_wp2
      go_ret2
      exact ⟨rfl, HA1.out.below⟩

/-- What Label and Node tell. -/
theorem turned_any (c : Cf) (n : Int) (w : World) : Calls Tryd.prog 29 #[cfv c, .int .i64 n] w fun e w' => e = .returned (.tuple #[.int .i64 (lb c n), .int .i64 (ple c n)]) ∧ Below w.heap.size w w' := by
  have K := place_any c n
  have A0 : Hid (At w c (w.alloc (.cells (cfc c) 23))) := At.start w c
  cases h : isN c n with
  | true =>
    have T := at_any c (tx c n) (ply c n)
    obtain ⟨l1, l2⟩ := lb_at h
    have ep : ple c n = 0 := by unfold ple; rw [h]; rfl
    rw [l2] at T
    rw [← l1] at T
    rw [ep] at K ⊢
    clear ep l1 l2
    obtain ⟨_, g1, g2, g3, g4, _⟩ := place_of h
    have hy := (ply_in c n).2
    have hw := (fits_of (place_of h).1).w2
    clear g4 h
    unfold tx at T
    generalize lb c n = R at *
    generalize plx c n = X at *
    generalize ply c n = Y at *
    have hm : Y.tmod 2 = Y % 2 := Int.tmod_eq_emod_of_nonneg g3
    by_cases ho : Y % 2 = 1
    · rw [if_pos ho] at T
      rw [ho] at hm
      obtain ⟨cw, ch, cl, cd, cr, ci, cb, we, ca⟩ := c
      simp only [cfv, cfc] at *
      clear ho
      go_enter Tryd.func29, Tryd.ntmps29
      go_wp2_with fail
      go_at_call 41
      refine (K _).mono ?_
      rintro e v1 ⟨rfl, hb⟩
      have A1 := A0.out.trans hb
      clear hb K
      obtain ⟨x0, x1, x2, x3, x4, x5, x6, x7, x8⟩ := A1.cells
      have HA1 : Hid (At w _ v1) := A1
      clear A1
      simp only at x0 x1 x2 x3 x4 x5 x6 x7 x8
      go_wp2_with fail
      go_at_call 43
      refine (T _).mono ?_
      rintro e v2 ⟨rfl, hb⟩
      have HA2 : Hid (At w _ v2) := HA1.out.trans hb
      clear hb T
      go_wp2
      go_ret2
      exact ⟨rfl, HA2.out.below⟩
    · rw [if_neg ho] at T
      have h0 : Y.tmod 2 = 0 := by omega
      obtain ⟨cw, ch, cl, cd, cr, ci, cb, we, ca⟩ := c
      simp only [cfv, cfc] at *
      clear ho hm
      go_enter Tryd.func29, Tryd.ntmps29
      go_wp2_with fail
      go_at_call 41
      refine (K _).mono ?_
      rintro e v1 ⟨rfl, hb⟩
      have A1 := A0.out.trans hb
      clear hb K
      obtain ⟨x0, x1, x2, x3, x4, x5, x6, x7, x8⟩ := A1.cells
      have HA1 : Hid (At w _ v1) := A1
      clear A1
      simp only at x0 x1 x2 x3 x4 x5 x6 x7 x8
      go_wp2_with fail
      go_at_call 43
      refine (T _).mono ?_
      rintro e v2 ⟨rfl, hb⟩
      have HA2 : Hid (At w _ v2) := HA1.out.trans hb
      clear hb T
      go_wp2
      go_ret2
      exact ⟨rfl, HA2.out.below⟩
  | false =>
    have ex : plx c n = 0 := by unfold plx; rw [h]; rfl
    have ey : ply c n = 0 := by unfold ply; rw [h]; rfl
    have ee : ple c n = 5 := by unfold ple; rw [h]; rfl
    rw [ex, ey, ee] at K
    rw [ee, lb_no h]
    clear ex ey ee h
    obtain ⟨cw, ch, cl, cd, cr, ci, cb, we, ca⟩ := c
    simp only [cfv, cfc] at *
    go_enter Tryd.func29, Tryd.ntmps29
    go_wp2_with fail
    go_at_call 41
    refine (K _).mono ?_
    rintro e v1 ⟨rfl, hb⟩
    have HA1 : Hid (At w _ v1) := A0.out.trans hb
    clear hb K
    go_wp2
    go_ret2
    exact ⟨rfl, HA1.out.below⟩

theorem label_any (c : Cf) (n : Int) (w : World) : Calls Tryd.prog 11 #[cfv c, .int .i64 n] w fun e w' => e = .returned (.tuple #[.int .i64 (lb c n), .int .i64 (ple c n)]) ∧ Below w.heap.size w w' := by
  have K := turned_any c n
  have A0 : Hid (At w c (w.alloc (.cells (cfc c) 23))) := At.start w c
  generalize lb c n = R at *
  generalize ple c n = E at *
  obtain ⟨cw, ch, cl, cd, cr, ci, cb, we, ca⟩ := c
  simp only [cfv, cfc] at *
  go_enter Tryd.func11, Tryd.ntmps11
  go_wp2_with fail
  go_at_call 29
  refine (K _).mono ?_
  rintro e v1 ⟨rfl, hb⟩
  have HA1 : Hid (At w _ v1) := A0.out.trans hb
  clear hb K
  go_wp2
  go_ret2
  exact ⟨rfl, HA1.out.below⟩

theorem node_any (c : Cf) (n : Int) (w : World) : Calls Tryd.prog 13 #[cfv c, .int .i64 n] w fun e w' => e = .returned (.tuple #[.int .i64 (lb c n), .int .i64 (ple c n)]) ∧ Below w.heap.size w w' := by
  have K := turned_any c n
  have A0 : Hid (At w c (w.alloc (.cells (cfc c) 23))) := At.start w c
  generalize lb c n = R at *
  generalize ple c n = E at *
  obtain ⟨cw, ch, cl, cd, cr, ci, cb, we, ca⟩ := c
  simp only [cfv, cfc] at *
  go_enter Tryd.func13, Tryd.ntmps13
  go_wp2_with fail
  go_at_call 29
  refine (K _).mono ?_
  rintro e v1 ⟨rfl, hb⟩
  have HA1 : Hid (At w _ v1) := A0.out.trans hb
  clear hb K
  go_wp2
  go_ret2
  exact ⟨rfl, HA1.out.below⟩
end Go.Proofs.YtcebfkkpclnmoaaDoor.Gr

namespace Go.Proofs.YtcebfkkpclnmoaaDoor
open Go.RowKit
theorem label_any (c : Cf) (n : Int) (w : World) : Calls Tryd.prog 11 #[cfv c, .int .i64 n] w fun e w' => e = .returned (.tuple #[.int .i64 (lb c n), .int .i64 (ple c n)]) ∧ Below w.heap.size w w' :=
  (Gr.label_any c n w).mono fun _ _ h => ⟨h.1, h.2.plain⟩
theorem snode_any (c : Cf) (n : Int) (w : World) : Calls Tryd.prog 13 #[cfv c, .int .i64 n] w fun e w' => e = .returned (.tuple #[.int .i64 (lb c n), .int .i64 (ple c n)]) ∧ Below w.heap.size w w' :=
  (Gr.node_any c n w).mono fun _ _ h => ⟨h.1, h.2.plain⟩
end Go.Proofs.YtcebfkkpclnmoaaDoor
