/-
  The program's nic: First.
-/
import Derived.Test.YtoejpngdkcnnhaaGreatNcGet
namespace Go.Proofs.YtoejpngdkcnnhaaGreat
open Go.RowKit

/-- The next word lies here. -/
structure Nxt (w : World) (cu : Value) (g o n cap h q m mc : Nat) (l : Int) (W : Nat) : Prop where
  cu : cu = .slice (some ⟨g, o, none⟩) n cap
  n1 : 1 ≤ n
  nc : n ≤ cap
  c0 : w.cell? ⟨g, o, none⟩ = some (.int .i64 l)
  c1 : w.cell? ⟨g, o + 1, none⟩ = some (.slice (some ⟨h, q, none⟩) m mc)
  m1 : 1 ≤ m
  mc : m ≤ mc
  cw : w.cell? ⟨h, q, none⟩ = some (.int .u64 (W : Int))
theorem Nxt.lt {w : World} {cu : Value} {g o n cap h q m mc : Nat} {l : Int} {W : Nat} (x : Nxt w cu g o n cap h q m mc l W) : g < w.heap.size ∧ h < w.heap.size := by
  constructor
  · rcases Nat.lt_or_ge g w.heap.size with c | c
    · exact c
    · have := x.c0; simp [World.cell?, Array.getElem?_eq_none c] at this
  · rcases Nat.lt_or_ge h w.heap.size with c | c
    · exact c
    · have := x.cw; simp [World.cell?, Array.getElem?_eq_none c] at this
theorem Nxt.next {w w' : World} {cu : Value} {g o n cap h q m mc : Nat} {l : Int} {W : Nat} (x : Nxt w cu g o n cap h q m mc l W) (hb : Below w.heap.size w w') : Nxt w' cu g o n cap h q m mc l W :=
  ⟨x.cu, x.n1, x.nc, (hb.cell (p := ⟨g, _, none⟩) x.lt.1).trans x.c0, (hb.cell (p := ⟨g, _, none⟩) x.lt.1).trans x.c1, x.m1, x.mc, (hb.cell (p := ⟨h, _, none⟩) x.lt.2).trans x.cw⟩
theorem two_at {v : World} {b : Nat} {c0 c1 x0 x1 : Value} {t : TypeId} (h : Bk v b #[c0, c1] t) : Bk ((v.setCell ⟨b, 0, none⟩ x0).setCell ⟨b, 1, none⟩ x1) b #[x0, x1] t := by
  have := (h.set 0 x0).set 1 x1
  simpa using this
theorem two_below {w v : World} {b : Nat} (h : Below w.heap.size w v) (hb : w.heap.size ≤ b) (x0 x1 : Value) : Below w.heap.size w ((v.setCell ⟨b, 0, none⟩ x0).setCell ⟨b, 1, none⟩ x1) :=
  h.trans ⟨rfl, rfl, rfl, by simp, fun i hi => (Below.heap_setCell _ ⟨b, 1, none⟩ _ i (by show i ≠ b; omega)).trans (Below.heap_setCell _ ⟨b, 0, none⟩ _ i (by show i ≠ b; omega))⟩
abbrev zcell : Value := .agg #[.int .i64 0, .int .u64 0]
section
variable {w : World} {b ib : Nat} {S : Nc} {cu : Value} {J : Nat → Value} {g o n cap h q m mc : Nat} {l : Int} {W : Nat}
set_option maxRecDepth 100000 in
theorem first_empty (hN : Nb w b ib S cu J) (h0 : S.lf = 0) : Calls Tryz.prog 16 #[.pointer (some ⟨b, 0, none⟩)] w fun e w' => e = .returned (.tuple #[zcell, .int .i64 8]) ∧ Below w.heap.size w w' := by
  have CL := fun v => look_any b v
  obtain ⟨c0, -, -, cl, -⟩ := (hN.alloc (.cells #[.int .i64 0, .int .u64 0] 48)).hd
  rw [h0] at cl
  have BN := Bk.new w #[.int .i64 0, .int .u64 0] 48
  have HB : Hid (Below w.heap.size w (w.alloc (.cells #[.int .i64 0, .int .u64 0] 48))) := (Below.refl _ _).alloc (Nat.le_refl _) _
  have hlt := hN.lt
  clear hN h0
  go_enter Tryz.func16, Tryz.ntmps16
  go_upto_region 1 with fail
  generalize w.alloc (.cells #[.int .i64 0, .int .u64 0] 48) = v at *
  obtain ⟨r, hr⟩ : ∃ r, w.heap.size = r := ⟨_, rfl⟩
  have HR : Hid (w.heap.size = r) := hr
  rw [hr] at BN hlt ⊢
  clear hr
  have b0 := BN.cell 0
  have b1 := BN.cell 1
  have f0 := BN.free 0
  have f1 := BN.free 1
  simp only [List.getElem?_toArray, List.getElem?_cons_zero, List.getElem?_cons_succ] at b0 b1
  have BH : Hid (Bk v r #[.int .i64 0, .int .u64 0] 48) := BN
  clear BN
  go_wp2_with (go_at_call 28; with_reducible refine (CL _).mono ?_; rintro e v1 ⟨rfl, rfl⟩)
  have Y := two_at (x0 := .int .i64 0) (x1 := .int .u64 0) BH.out
  have y0 := Y.cell 0
  have y1 := Y.cell 1
  simp only [List.getElem?_toArray, List.getElem?_cons_zero, List.getElem?_cons_succ] at y0 y1
  exact bodyPost_ret (v := .tuple #[.agg #[.int .i64 0, .int .u64 0], .int .i64 8]) (by simp [results, Tryz.results16, go_sem, y0, y1]; try rfl) rfl ⟨rfl, two_below HB.out (by rw [HR.out]; exact Nat.le_refl _) _ _⟩
set_option maxRecDepth 100000 in
theorem first_any (hN : Nb w b ib S cu J) (h0 : S.lf ≠ 0) (hX : Nxt w cu g o n cap h q m mc l W) : Calls Tryz.prog 16 #[.pointer (some ⟨b, 0, none⟩)] w fun e w' => e = .returned (.tuple #[.agg #[.int .i64 l, .int .u64 (W : Int)], .int .i64 0]) ∧ Below w.heap.size w w' := by
  have CL := fun v => look_any b v
  have hlt := hN.lt
  have hb1 : Below w.heap.size w (w.alloc (.cells #[.int .i64 0, .int .u64 0] 48)) := (Below.refl _ _).alloc (Nat.le_refl _) _
  obtain ⟨c0, -, -, cl, cc⟩ := (hN.next hb1).hd
  obtain ⟨rfl, n1, n2, d0, d1, m1, m2, dw⟩ := hX.next hb1
  have hl2 := hX.lt
  have HB : Hid (Below w.heap.size w (w.alloc (.cells #[.int .i64 0, .int .u64 0] 48))) := hb1
  have BN := Bk.new w #[.int .i64 0, .int .u64 0] 48
  generalize S.lf = lf at *
  have g1 : (1 : Int) ≤ (n : Int) := by omega
  have g2 : (1 : Int) ≤ (m : Int) := by omega
  have g3 : 0 < n := n1
  have g4 : 0 < m := m1
  have g5 : (0 : Int) < (n : Int) := by omega
  have g6 : (0 : Int) < (m : Int) := by omega
  clear hN hX hb1
  go_enter Tryz.func16, Tryz.ntmps16
  go_upto_region 1 with fail
  generalize w.alloc (.cells #[.int .i64 0, .int .u64 0] 48) = v at *
  obtain ⟨r, hr⟩ : ∃ r, w.heap.size = r := ⟨_, rfl⟩
  have HR : Hid (w.heap.size = r) := hr
  rw [hr] at BN hlt hl2 ⊢
  clear hr
  have b0 := BN.cell 0
  have b1 := BN.cell 1
  have f0 := BN.free 0
  have f1 := BN.free 1
  simp only [List.getElem?_toArray, List.getElem?_cons_zero, List.getElem?_cons_succ] at b0 b1
  have BH : Hid (Bk v r #[.int .i64 0, .int .u64 0] 48) := BN
  clear BN
  go_upto_region 6 with (go_at_call 28; with_reducible refine (CL _).mono ?_; rintro e v1 ⟨rfl, rfl⟩)
  clear h0 c0 cl CL
  have T0 := show _ ∧ _ ∧ _ ∧ _ from ⟨cc, d0, d1, dw⟩
  refine wp_region_G (fun V => V.cell? ⟨b, 13, none⟩ = some (.slice (some ⟨g, o, none⟩) n cap) ∧ V.cell? ⟨g, o, none⟩ = some (.int .i64 l) ∧ V.cell? ⟨g, o + 1, none⟩ = some (.slice (some ⟨h, q, none⟩) m mc) ∧ V.cell? ⟨h, q, none⟩ = some (.int .u64 (W : Int))) 17 (by kernel_rfl) ?_
  refine wpAnyG_take [1, 2, 3, 4, 5, 6, 16, 17] (some 21) (i := 0) (v := ?v0) rfl rfl (by kernel_rfl) (by kernel_rfl) (by kernel_rfl) (by kernel_rfl) (fun _ _ _ h => h) (Or.inl ⟨by rfl, ?y0⟩) T0 ?r0
  case y0 => (intro V hSV; obtain ⟨s0, s1, s2, s3⟩ := hSV; go_simp; try with_reducible rfl)
  try simp only [Act.put, List.setIfInBounds_toArray, List.set_cons_zero, List.set_cons_succ]
  refine wpAnyG_take [2, 3, 4, 5, 6, 16, 17] (some 22) (i := 1) (v := ?v1) rfl rfl (by kernel_rfl) (by kernel_rfl) (by kernel_rfl) (by kernel_rfl) (fun _ _ _ h => h) (Or.inl ⟨by rfl, ?y1⟩) T0 ?r1
  case y1 => (intro V hSV; obtain ⟨s0, s1, s2, s3⟩ := hSV; go_simp; try with_reducible rfl)
  try simp only [Act.put, List.setIfInBounds_toArray, List.set_cons_zero, List.set_cons_succ]
  refine wpAnyG_take [3, 4, 5, 6, 16, 17] (some 23) (i := 2) (v := ?v2) rfl rfl (by kernel_rfl) (by kernel_rfl) (by kernel_rfl) (by kernel_rfl) (fun _ _ _ h => h) (Or.inl ⟨by rfl, ?y2⟩) T0 ?r2
  case y2 => (intro V hSV; obtain ⟨s0, s1, s2, s3⟩ := hSV; go_simp; try with_reducible rfl)
  try simp only [Act.put, List.setIfInBounds_toArray, List.set_cons_zero, List.set_cons_succ]
  refine wpAnyG_take [4, 5, 6, 16, 17] (some 24) (i := 3) (v := ?v3) rfl rfl (by kernel_rfl) (by kernel_rfl) (by kernel_rfl) (by kernel_rfl) (fun _ _ _ h => h) (Or.inl ⟨by rfl, ?y3⟩) T0 ?r3
  case y3 => (intro V hSV; obtain ⟨s0, s1, s2, s3⟩ := hSV; go_simp; try with_reducible rfl)
  try simp only [Act.put, List.setIfInBounds_toArray, List.set_cons_zero, List.set_cons_succ]
  refine wpAnyG_take [5, 6, 16, 17] (some 25) (i := 4) (v := ?v4) rfl rfl (by kernel_rfl) (by kernel_rfl) (by kernel_rfl) (by kernel_rfl) (fun _ _ _ h => h) (Or.inl ⟨by rfl, ?y4⟩) T0 ?r4
  case y4 => (intro V hSV; obtain ⟨s0, s1, s2, s3⟩ := hSV; go_simp; try with_reducible rfl)
  try simp only [Act.put, List.setIfInBounds_toArray, List.set_cons_zero, List.set_cons_succ]
  refine wpAnyG_take [6, 16, 17] (some 26) (i := 5) (v := ?v5) rfl rfl (by kernel_rfl) (by kernel_rfl) (by kernel_rfl) (by kernel_rfl) (fun _ _ _ h => h) (Or.inl ⟨by rfl, ?y5⟩) T0 ?r5
  case y5 => (intro V hSV; obtain ⟨s0, s1, s2, s3⟩ := hSV; go_simp; try with_reducible rfl)
  try simp only [Act.put, List.setIfInBounds_toArray, List.set_cons_zero, List.set_cons_succ]
  refine wpAnyG_take [16, 17] (some 27) (i := 6) (v := ?v6) rfl rfl (by kernel_rfl) (by kernel_rfl) (by kernel_rfl) (by kernel_rfl) (fun _ _ _ h => h) (Or.inl ⟨by rfl, ?y6⟩) T0 ?r6
  case y6 => (intro V hSV; obtain ⟨s0, s1, s2, s3⟩ := hSV; go_simp; try with_reducible rfl)
  try simp only [Act.put, List.setIfInBounds_toArray, List.set_cons_zero, List.set_cons_succ]
  refine wpAnyG_take [8, 9, 10, 11, 12, 13, 14, 15, 16, 17] (some 28) (i := 7) (v := ?v7) rfl rfl (by kernel_rfl) (by kernel_rfl) (by kernel_rfl) (by kernel_rfl) (fun _ _ _ h => h) (Or.inl ⟨by rfl, ?y7⟩) T0 ?r7
  case y7 => (intro V hSV; obtain ⟨s0, s1, s2, s3⟩ := hSV; go_simp; try with_reducible rfl)
  try simp only [Act.put, List.setIfInBounds_toArray, List.set_cons_zero, List.set_cons_succ]
  refine wpAnyG_take [9, 10, 11, 12, 13, 14, 15, 16, 17] (some 29) (i := 8) (v := ?v8) rfl rfl (by kernel_rfl) (by kernel_rfl) (by kernel_rfl) (by kernel_rfl) (fun _ _ _ h => h) (Or.inl ⟨by rfl, ?y8⟩) T0 ?r8
  case y8 => (intro V hSV; obtain ⟨s0, s1, s2, s3⟩ := hSV; go_simp; try with_reducible rfl)
  try simp only [Act.put, List.setIfInBounds_toArray, List.set_cons_zero, List.set_cons_succ]
  refine wpAnyG_take [10, 11, 12, 13, 14, 15, 16, 17] (some 30) (i := 9) (v := ?v9) rfl rfl (by kernel_rfl) (by kernel_rfl) (by kernel_rfl) (by kernel_rfl) (fun _ _ _ h => h) (Or.inl ⟨by rfl, ?y9⟩) T0 ?r9
  case y9 => (intro V hSV; obtain ⟨s0, s1, s2, s3⟩ := hSV; go_simp; try with_reducible rfl)
  try simp only [Act.put, List.setIfInBounds_toArray, List.set_cons_zero, List.set_cons_succ]
  refine wpAnyG_take [11, 12, 13, 14, 15, 16, 17] (some 31) (i := 10) (v := ?v10) rfl rfl (by kernel_rfl) (by kernel_rfl) (by kernel_rfl) (by kernel_rfl) (fun _ _ _ h => h) (Or.inl ⟨by rfl, ?y10⟩) T0 ?r10
  case y10 => (intro V hSV; obtain ⟨s0, s1, s2, s3⟩ := hSV; go_simp; try with_reducible rfl)
  try simp only [Act.put, List.setIfInBounds_toArray, List.set_cons_zero, List.set_cons_succ]
  refine wpAnyG_take [12, 13, 14, 15, 16, 17] (some 32) (i := 11) (v := ?v11) rfl rfl (by kernel_rfl) (by kernel_rfl) (by kernel_rfl) (by kernel_rfl) (fun _ _ _ h => h) (Or.inl ⟨by rfl, ?y11⟩) T0 ?r11
  case y11 => (intro V hSV; obtain ⟨s0, s1, s2, s3⟩ := hSV; go_simp; try with_reducible rfl)
  try simp only [Act.put, List.setIfInBounds_toArray, List.set_cons_zero, List.set_cons_succ]
  refine wpAnyG_take [13, 14, 15, 16, 17] (some 33) (i := 12) (v := ?v12) rfl rfl (by kernel_rfl) (by kernel_rfl) (by kernel_rfl) (by kernel_rfl) (fun _ _ _ h => h) (Or.inl ⟨by rfl, ?y12⟩) T0 ?r12
  case y12 => (intro V hSV; obtain ⟨s0, s1, s2, s3⟩ := hSV; go_simp; try with_reducible rfl)
  try simp only [Act.put, List.setIfInBounds_toArray, List.set_cons_zero, List.set_cons_succ]
  refine wpAnyG_take [14, 15, 16, 17] (some 34) (i := 13) (v := ?v13) rfl rfl (by kernel_rfl) (by kernel_rfl) (by kernel_rfl) (by kernel_rfl) (fun _ _ _ h => h) (Or.inl ⟨by rfl, ?y13⟩) T0 ?r13
  case y13 => (intro V hSV; obtain ⟨s0, s1, s2, s3⟩ := hSV; go_simp; try with_reducible rfl)
  try simp only [Act.put, List.setIfInBounds_toArray, List.set_cons_zero, List.set_cons_succ]
  refine wpAnyG_take [15, 16, 17] (some 35) (i := 14) (v := ?v14) rfl rfl (by kernel_rfl) (by kernel_rfl) (by kernel_rfl) (by kernel_rfl) (fun _ _ _ h => h) (Or.inl ⟨by rfl, ?y14⟩) T0 ?r14
  case y14 => (intro V hSV; obtain ⟨s0, s1, s2, s3⟩ := hSV; go_simp; try with_reducible rfl)
  try simp only [Act.put, List.setIfInBounds_toArray, List.set_cons_zero, List.set_cons_succ]
  refine wpAnyG_take [16, 17] (some 36) (i := 15) (v := ?v15) rfl rfl (by kernel_rfl) (by kernel_rfl) (by kernel_rfl) (by kernel_rfl) (fun _ _ _ h => h) (Or.inl ⟨by rfl, ?y15⟩) T0 ?r15
  case y15 => (intro V hSV; obtain ⟨s0, s1, s2, s3⟩ := hSV; go_simp; try with_reducible rfl)
  try simp only [Act.put, List.setIfInBounds_toArray, List.set_cons_zero, List.set_cons_succ]
  refine wpAnyG_take [17] (some 37) (i := 16) (v := ?v16) rfl rfl (by kernel_rfl) (by kernel_rfl) (by kernel_rfl) (by kernel_rfl) (fun _ _ _ h => h) (Or.inl ⟨by rfl, ?y16⟩) T0 ?r16
  case y16 => (intro V hSV; obtain ⟨s0, s1, s2, s3⟩ := hSV; go_simp; try with_reducible rfl)
  try simp only [Act.put, List.setIfInBounds_toArray, List.set_cons_zero, List.set_cons_succ]
  have B4 : Hid (Bk v.drew r #[.int .i64 0, .int .u64 0] 48) := BH.out.drew
  have HB4 : Hid (Below w.heap.size w v.drew) := HB.out.drew
  clear b0 b1 f0 f1 BH HB d0 d1 dw cc T0
  generalize v.drew = v4 at *
  have b0 := B4.out.cell 0
  have b1 := B4.out.cell 1
  have f0 := B4.out.free 0
  have f1 := B4.out.free 1
  simp only [List.getElem?_toArray, List.getElem?_cons_zero, List.getElem?_cons_succ] at b0 b1
  refine wpAnyG_one (i := 17) (by kernel_rfl) rfl (fun K hK => ?_)
  go_simp
  refine hK.out _ _ (Or.inl (by kernel_rfl)) ?_
  clear hK K
  try simp only [Act.put, List.setIfInBounds_toArray, List.set_cons_zero, List.set_cons_succ]
  refine wpAnyG_one (i := 18) (by kernel_rfl) rfl (fun K hK => ?_)
  go_simp
  refine hK.out _ _ (Or.inl (by kernel_rfl)) ?_
  clear hK K
  try simp only [Act.put, List.setIfInBounds_toArray, List.set_cons_zero, List.set_cons_succ]
  refine wpAnyG_done (by kernel_rfl) ?_ _
  go_wp2
  have Y := two_at (x0 := .int .i64 l) (x1 := .int .u64 (W : Int)) B4.out
  have y0 := Y.cell 0
  have y1 := Y.cell 1
  simp only [List.getElem?_toArray, List.getElem?_cons_zero, List.getElem?_cons_succ] at y0 y1
  exact bodyPost_ret (v := .tuple #[.agg #[.int .i64 l, .int .u64 (W : Int)], .int .i64 0]) (by simp [results, Tryz.results16, go_sem, y0, y1]; try rfl) rfl ⟨rfl, two_below HB4.out (by rw [HR.out]; exact Nat.le_refl _) _ _⟩
end
end Go.Proofs.YtoejpngdkcnnhaaGreat
