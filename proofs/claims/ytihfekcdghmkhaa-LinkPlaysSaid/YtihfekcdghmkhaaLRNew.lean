/-
  The document's New.
-/
import Derived.Test.YtihfekcdghmkhaaLRef
import Derived.Test.YtihfekcdghmkhaaLFp
namespace Go.Proofs.Ytihfekcdghmkhaa
open Go.RowKit
open RC (Cl cc cv zc cc_len cc_at)

theorem cl1_ways (x : Int) {m : Nat} (hm : 1 ≤ m) : (x < 1 ∧ ((cl1 x m : Nat) : Int) = 1) ∨ (¬ x < 1 ∧ (m : Int) < x ∧ ((cl1 x m : Nat) : Int) = (m : Int)) ∨ (¬ x < 1 ∧ ¬ (m : Int) < x ∧ ((cl1 x m : Nat) : Int) = x) := by
  have := (cl1_in x hm).2.2
  omega
theorem vi_rep (n : Nat) (x : Int) : vi (List.replicate n x) ++ [.int .i64 x] = vi (List.replicate (n + 1) x) := by
  rw [List.replicate_succ']
  simp [vi]
set_option maxRecDepth 100000 in
set_option maxHeartbeats 16000000 in
theorem rnew_any (x y z : Int) (w : World) : Calls Try.prog 12 #[.int .i64 x, .int .i64 y, .int .i64 z] w fun e w' => ∃ v, e = .returned v ∧ RefAt w' v (newS x y z) ∧ Below w.heap.size w w' ∧ ∀ g, Vb v g → w.heap.size ≤ g ∧ g < w'.heap.size := by
  obtain ⟨i0, ki, hz0, hz1, hz2⟩ := info_parts Try.info3
  have WX := cl1_ways x (m := 8) (by decide)
  have WY := cl1_ways y (m := 64) (by decide)
  have WZ := cl1_ways z (m := 64) (by decide)
  obtain ⟨hn1, hn8, -⟩ := cl1_in x (m := 8) (by decide)
  obtain ⟨hd1, hd8, -⟩ := cl1_in y (m := 64) (by decide)
  unfold newS
  generalize cl1 x 8 = n at *
  generalize cl1 y 64 = d at *
  generalize cl1 z 64 = r at *
  have WWX : Hid (_ ∨ _) := WX
  have WWY : Hid (_ ∨ _) := WY
  have WWZ : Hid (_ ∨ _) := WZ
  obtain ⟨q1, q2, q3⟩ := two_links w 30 lz #[.int .i64 (n : Int), .int .i64 (d : Int), .int .i64 (r : Int), .slice none 0 0, .slice none 0 0, .slice none 0 0, .slice none 0 0]
  have R0 : Hid (Bk (w.alloc (.cells lz 30)) w.heap.size lz 30) := Bk.new _ _ _
  have B0 : Hid (Below w.heap.size w (w.alloc (.cells lz 30))) := (Below.refl _ _).alloc (Nat.le_refl _) _
  have hs0 : (w.alloc (.cells lz 30)).heap.size = w.heap.size + 1 := by simp
  clear WX WY WZ q1 q2 q3
  go_enter Try.func12, Try.ntmps12
  go_upto_region 1 with fail
  generalize w.alloc (.cells lz 30) = v0 at *
  obtain ⟨p, hp⟩ : ∃ p, w.heap.size = p := ⟨_, rfl⟩
  have HP : Hid (w.heap.size = p) := hp
  rw [hp] at R0 B0 hs0 ⊢
  clear hp
  have HS0 : Hid (v0.heap.size = p + 1) := hs0
  have PN : Hid (Bk (v0.alloc (.cells #[.int .i64 (n : Int), .int .i64 (d : Int), .int .i64 (r : Int), .slice none 0 0, .slice none 0 0, .slice none 0 0, .slice none 0 0] 30)) v0.heap.size #[.int .i64 (n : Int), .int .i64 (d : Int), .int .i64 (r : Int), .slice none 0 0, .slice none 0 0, .slice none 0 0, .slice none 0 0] 30) := Bk.new _ _ _
  rw [hs0] at PN
  clear hs0
  go_cut [7] from 9 to 18 (fun u wc => u = .pointer (some ⟨p + 1, 0, none⟩) ∧ Bk wc (p + 1) #[.int .i64 (n : Int), .int .i64 (d : Int), .int .i64 (r : Int), .slice none 0 0, .slice none 0 0, .slice none 0 0, .slice none 0 0] 30 ∧ Bk wc p lz 30 ∧ Below p w wc)
  case first =>
    rcases WWX.out with ⟨x1, x2⟩ | ⟨x1, x3, x2⟩ | ⟨x1, x3, x2⟩ <;> rcases WWY.out with ⟨y1, y2⟩ | ⟨y1, y3, y2⟩ | ⟨y1, y3, y2⟩ <;> rcases WWZ.out with ⟨z1, z2⟩ | ⟨z1, z3, z2⟩ | ⟨z1, z3, z2⟩ <;> rw [x2, y2, z2] at PN
    all_goals
      have X2 : Hid _ := x2
      have Y2 : Hid _ := y2
      have Z2 : Hid _ := z2
      clear x2 y2 z2 WWX WWY WWZ
      go_wp2
      go_meet
      exact ⟨by rw [HS0.out], by rw [X2.out, Y2.out, Z2.out]; exact PN.out, R0.out.alloc _, B0.out.alloc (by have := HS0.out; omega) _⟩
  case rest =>
  obtain ⟨rfl, q1, q2, q3⟩ := hcut
  have P0 : Hid (Bk wc (p + 1) #[.int .i64 (n : Int), .int .i64 (d : Int), .int .i64 (r : Int), .slice none 0 0, .slice none 0 0, .slice none 0 0, .slice none 0 0] 30) := q1
  have R1 : Hid (Bk wc p lz 30) := q2
  have B1 : Hid (Below p w wc) := q3
  clear q1 q2 q3 R0 B0 PN HS0 WWX WWY WWZ
  go_wp2_with fail
  go_loopw [8] (fun x wr => ∃ (j : Nat) (vc vf : Value), j ≤ n ∧ x = .int .i64 j ∧ Bk wr (p + 1) #[.int .i64 (n : Int), .int .i64 (d : Int), .int .i64 (r : Int), vc, .slice none 0 0, vf, .slice none 0 0] 30 ∧ Bk wr p lz 30 ∧ Below p w wr ∧ OwnK 3 1 wr (p + 1 + 1) vc j (vi (List.replicate j (d : Int))) ∧ OwnK 3 1 wr (p + 1 + 1) vf j (vi (List.replicate j 0)) ∧ ∀ q, vc.ownBlock = some q → vf.ownBlock ≠ some q) (fun x _ => n - (RowKit.intOf x).toNat)
  case atStart => exact ⟨0, _, _, Nat.zero_le _, rfl, P0.out, R1.out, B1.out, OwnK.nil _ _ _ _, OwnK.nil _ _ _ _, fun q h => by simp [Value.ownBlock] at h⟩
  case round =>
    obtain ⟨j, vc, vf, hj, rfl, p0, r1, b1, oc, of, hne⟩ := hrel
    clear P0 R1 B1
    have P0 : Hid (Bk wr (p + 1) #[.int .i64 (n : Int), .int .i64 (d : Int), .int .i64 (r : Int), vc, .slice none 0 0, vf, .slice none 0 0] 30) := p0
    have R1 : Hid (Bk wr p lz 30) := r1
    have B1 : Hid (Below p w wr) := b1
    have OC : Hid (OwnK 3 1 wr (p + 1 + 1) vc j (vi (List.replicate j (d : Int)))) := oc
    have OF : Hid (OwnK 3 1 wr (p + 1 + 1) vf j (vi (List.replicate j 0))) := of
    have NE : Hid (∀ q, vc.ownBlock = some q → vf.ownBlock ≠ some q) := hne
    have hsz0 : p + 1 + 1 ≤ wr.heap.size := P0.out.lt
    clear p0 r1 b1 oc of hne
    have c0 := P0.out.cell 0
    have c1 := P0.out.cell 1
    have c3 := P0.out.cell 3
    have z3 := P0.out.free 3
    simp only [List.getElem?_toArray, List.getElem?_cons_zero, List.getElem?_cons_succ] at c0 c1 c3
    by_cases hlt : j < n
    case neg =>
      have e1 : ¬ (j : Int) < (n : Int) := by omega
      obtain rfl : j = n := by omega
      obtain ⟨ca, ccp, rfl, hc1, hc2, rdc⟩ := OwnK.rd OC.out (by decide)
      obtain ⟨fa, fcp, rfl, hf1, hf2, rdf⟩ := OwnK.rd OF.out (by decide)
      have NC1 : Hid (New p _ ca) := (New.of OC.out).mono (by omega)
      have NF1 : Hid (New p _ fa) := (New.of OF.out).mono (by omega)
      have RC1 : Hid (Rd wr ca (vi (List.replicate j (d : Int)))) := rdc
      have RF1 : Hid (Rd wr fa (vi (List.replicate j 0))) := rdf
      have OC9 : Hid (OwnK 3 1 wr (p + 1 + 1) (.slice ca j ccp) j (vi (List.replicate j (d : Int)))) := OC.out
      have OF9 : Hid (OwnK 3 1 wr (p + 1 + 1) (.slice fa j fcp) j (vi (List.replicate j 0))) := OF.out
      clear rdc rdf OC OF NE
      have c2 := P0.out.cell 2
      have c4 := P0.out.cell 4
      have c5 := P0.out.cell 5
      have c6 := P0.out.cell 6
      simp only [List.getElem?_toArray, List.getElem?_cons_zero, List.getElem?_cons_succ] at c2 c4 c5 c6
      have d0 := R1.out.cell 0
      have d1 := R1.out.cell 1
      have d2 := R1.out.cell 2
      have d3 := R1.out.cell 3
      have d4 := R1.out.cell 4
      have d5 := R1.out.cell 5
      have d6 := R1.out.cell 6
      simp only [List.getElem?_toArray, List.getElem?_cons_zero, List.getElem?_cons_succ] at d0 d1 d2 d3 d4 d5 d6
      have z0 := R1.out.free 0
      have z1 := R1.out.free 1
      have z2 := R1.out.free 2
      have z3 := R1.out.free 3
      have z4 := R1.out.free 4
      have z5 := R1.out.free 5
      have z6 := R1.out.free 6
      have YY := seven_at R1.out (.int .i64 (j : Int)) (.int .i64 (d : Int)) (.int .i64 (r : Int)) (.slice ca j ccp) (.slice none 0 0) (.slice fa j fcp) (.slice none 0 0)
      have y0 := YY.cell 0
      have y1 := YY.cell 1
      have y2 := YY.cell 2
      have y3 := YY.cell 3
      have y4 := YY.cell 4
      have y5 := YY.cell 5
      have y6 := YY.cell 6
      simp only [List.getElem?_toArray, List.getElem?_cons_zero, List.getElem?_cons_succ] at y0 y1 y2 y3 y4 y5 y6
      clear YY
      have far7 : ∀ (v : Value) (n : Nat) (l : List Value), OwnK 3 1 wr (p + 1 + 1) v n l → OwnK 3 1 (((((((wr.setCell ⟨p, 0, none⟩ (.int .i64 (j : Int))).setCell ⟨p, 1, none⟩ (.int .i64 (d : Int))).setCell ⟨p, 2, none⟩ (.int .i64 (r : Int))).setCell ⟨p, 3, none⟩ (.slice ca j ccp)).setCell ⟨p, 4, none⟩ (.slice none 0 0)).setCell ⟨p, 5, none⟩ (.slice fa j fcp)).setCell ⟨p, 6, none⟩ (.slice none 0 0)) (p + 1 + 1) v n l := fun v n l h => OwnK.far (OwnK.far (OwnK.far (OwnK.far (OwnK.far (OwnK.far (OwnK.far h (by omega)) (by omega)) (by omega)) (by omega)) (by omega)) (by omega)) (by omega)
      have B9 : Hid (Below p w (((((((wr.setCell ⟨p, 0, none⟩ (.int .i64 (j : Int))).setCell ⟨p, 1, none⟩ (.int .i64 (d : Int))).setCell ⟨p, 2, none⟩ (.int .i64 (r : Int))).setCell ⟨p, 3, none⟩ (.slice ca j ccp)).setCell ⟨p, 4, none⟩ (.slice none 0 0)).setCell ⟨p, 5, none⟩ (.slice fa j fcp)).setCell ⟨p, 6, none⟩ (.slice none 0 0))) := below_seven B1.out (Nat.le_refl _) _ _ _ _ _ _ _
      have RC2 : Hid (Rd (((((((wr.setCell ⟨p, 0, none⟩ (.int .i64 (j : Int))).setCell ⟨p, 1, none⟩ (.int .i64 (d : Int))).setCell ⟨p, 2, none⟩ (.int .i64 (r : Int))).setCell ⟨p, 3, none⟩ (.slice ca j ccp)).setCell ⟨p, 4, none⟩ (.slice none 0 0)).setCell ⟨p, 5, none⟩ (.slice fa j fcp)).setCell ⟨p, 6, none⟩ (.slice none 0 0)) ca (vi (List.replicate j (d : Int)))) := show Rd _ _ _ from by
        obtain ⟨a, cap, e, _, _, r⟩ := OwnK.rd (far7 _ _ _ OC9.out) (by decide)
        simp only [Value.slice.injEq] at e
        obtain ⟨rfl, -, -⟩ := e
        exact r
      have RF2 : Hid (Rd (((((((wr.setCell ⟨p, 0, none⟩ (.int .i64 (j : Int))).setCell ⟨p, 1, none⟩ (.int .i64 (d : Int))).setCell ⟨p, 2, none⟩ (.int .i64 (r : Int))).setCell ⟨p, 3, none⟩ (.slice ca j ccp)).setCell ⟨p, 4, none⟩ (.slice none 0 0)).setCell ⟨p, 5, none⟩ (.slice fa j fcp)).setCell ⟨p, 6, none⟩ (.slice none 0 0)) fa (vi (List.replicate j 0))) := show Rd _ _ _ from by
        obtain ⟨a, cap, e, _, _, r⟩ := OwnK.rd (far7 _ _ _ OF9.out) (by decide)
        simp only [Value.slice.injEq] at e
        obtain ⟨rfl, -, -⟩ := e
        exact r
      clear far7 OC9 OF9 RC1 RF1
      go_wp2
      refine bodyPost_ret (v := .agg #[.int .i64 (j : Int), .int .i64 (d : Int), .int .i64 (r : Int), .slice ca j ccp, .slice none 0 0, .slice fa j fcp, .slice none 0 0]) (by simp [results, Try.results12, go_sem, y0, y1, y2, y3, y4, y5, y6]; try rfl) rfl ⟨_, rfl, ⟨ca, none, fa, none, ccp, 0, fcp, 0, ?_, ⟨RC2.out, fun j v h => (by cases h), RF2.out, fun j v h => (by cases h)⟩, ?_, ?_⟩, by rw [HP.out]; exact B9.out, ?_⟩
      · unfold lsv
        simp
      · exact ⟨by simp, by simp, fun _ => ⟨rfl, rfl⟩⟩
      · exact ⟨by simp, by simp, fun _ => ⟨rfl, rfl⟩⟩
      · rintro g ⟨_, _, _, f1, f2, f3, f4, _, _, _, _, _, _, _, _, e, x, rfl, hx⟩
        simp only [Value.agg.injEq, Array.mk.injEq, List.cons.injEq, Value.slice.injEq, and_true] at e
        obtain ⟨-, -, -, ⟨rfl, -, -⟩, ⟨rfl, -, -⟩, ⟨rfl, -, -⟩, rfl, -, -⟩ := e
        rw [HP.out, show (((((((wr.setCell ⟨p, 0, none⟩ (.int .i64 (j : Int))).setCell ⟨p, 1, none⟩ (.int .i64 (d : Int))).setCell ⟨p, 2, none⟩ (.int .i64 (r : Int))).setCell ⟨p, 3, none⟩ (.slice ca j ccp)).setCell ⟨p, 4, none⟩ (.slice none 0 0)).setCell ⟨p, 5, none⟩ (.slice fa j fcp)).setCell ⟨p, 6, none⟩ (.slice none 0 0)).heap.size = wr.heap.size by simp]
        rcases hx with e | e | e | e
        · exact NC1.out x e
        · cases e
        · exact NF1.out x e
        · cases e
    have e1 : (j : Int) < (n : Int) := by omega
    have hjj : j ≤ 1000000 := by omega
    have rown0 := OC.out
    have HV1 : Hid (vi (List.replicate j (d : Int)) ++ [.int .i64 (d : Int)] = vi (List.replicate (j + 1) (d : Int))) := vi_rep j _
    have HV2 : Hid (vi (List.replicate j 0) ++ [.int .i64 0] = vi (List.replicate (j + 1) 0)) := vi_rep j 0
    generalize hg1 : vi (List.replicate j (d : Int)) = l1 at *
    generalize hg2 : vi (List.replicate j 0) = l2 at *
    clear hg1 hg2
    go_upto_region 6 with (at_builtin; go_loud (refine wpList_app_at rfl (.tmp 26) (.tmp 29) 27 3 i0 (.int .i64 0) 1 8 rfl Try.underlying27 ki hz0 hz1 hz2 rfl (by decide) (by decide) (p + 1 + 1) wr vc j l1 [.int .i64 (d : Int)] rfl rown0 rfl rfl (by intro u hu; simp at hu; subst hu; rfl) hjj hsz0 ?_; intro vc2 w5 o5 g5 p5; obtain ⟨ca, ccp, rfl, -, -, -⟩ := OwnK.rd o5 (by decide); have P5 : Hid (Bk w5 (p + 1) #[.int .i64 (n : Int), .int .i64 (d : Int), .int .i64 (r : Int), vc, .slice none 0 0, vf, .slice none 0 0] 30) := (P0.out.alloc _).kept g5 (fun h => by have := (OC.out.lt h).1; omega); have z5 := P5.out.free 3; have u5 := P5.out.cell 3; simp only [List.getElem?_toArray, List.getElem?_cons_zero, List.getElem?_cons_succ] at u5))
    have R5 : Hid (Bk (w5.setCell ⟨p + 1, 3, none⟩ (.slice ca (j + 1) ccp)) p lz 30) := ((R1.out.alloc _).kept g5 (fun h => by have := (OC.out.lt h).1; omega)).far (by omega)
    have P6 : Hid (Bk (w5.setCell ⟨p + 1, 3, none⟩ (.slice ca (j + 1) ccp)) (p + 1) #[.int .i64 (n : Int), .int .i64 (d : Int), .int .i64 (r : Int), .slice ca (j + 1) ccp, .slice none 0 0, vf, .slice none 0 0] 30) := show Bk _ _ _ _ from by simpa using P5.out.set 3 (.slice ca (j + 1) ccp)
    have hsz5 : p + 1 + 1 ≤ w5.heap.size := P5.out.lt
    have OF5 : OwnK 3 1 w5 (p + 1 + 1) vf j l2 := World.ownsRow.kept (World.ownsRow.alloc OF.out _) g5 (by
      cases hv : vf.ownBlock with
      | none => exact Or.inl rfl
      | some q => exact Or.inr fun h => NE.out q h.symm hv)
    have NE5 : Hid (∀ q, (Value.slice ca (j + 1) ccp).ownBlock = some q → vf.ownBlock ≠ some q) := show ∀ q, (Value.slice ca (j + 1) ccp).ownBlock = some q → vf.ownBlock ≠ some q from fun q hq hq2 => by
      rcases p5 with h | h
      · exact NE.out q (by rw [← h]; exact hq) hq2
      · rw [hq] at h
        injection h with h
        have := (OF.out.lt hq2).2
        simp at h
        omega
    have B6 : Hid (Below p w (w5.setCell ⟨p + 1, 3, none⟩ (.slice ca (j + 1) ccp))) := ((B1.out.alloc (by omega) _).grown g5 (by simp; omega) (fun q hq => by have := (OC.out.lt hq).1; omega)).setCell (by show p ≤ p + 1; omega) _
    have OC6 : Hid (OwnK 3 1 (w5.setCell ⟨p + 1, 3, none⟩ (.slice ca (j + 1) ccp)) (p + 1 + 1) (.slice ca (j + 1) ccp) (j + 1) (l1 ++ [.int .i64 (d : Int)])) := OwnK.far o5 (by omega)
    have OF6 : Hid (OwnK 3 1 (w5.setCell ⟨p + 1, 3, none⟩ (.slice ca (j + 1) ccp)) (p + 1 + 1) vf j l2) := OwnK.far OF5 (by omega)
    clear P0 R1 B1 OC OF NE c0 c1 c3 z3 rown0 o5 g5 p5 P5 z5 u5 OF5 hsz0
    have hsz6 : p + 1 + 1 ≤ (w5.setCell ⟨p + 1, 3, none⟩ (.slice ca (j + 1) ccp)).heap.size := by simpa using hsz5
    generalize w5.setCell ⟨p + 1, 3, none⟩ (.slice ca (j + 1) ccp) = w6 at *
    have c5 := P6.out.cell 5
    have z5 := P6.out.free 5
    simp only [List.getElem?_toArray, List.getElem?_cons_zero, List.getElem?_cons_succ] at c5
    have rown6 := OF6.out
    go_wp2_with (at_builtin; go_loud (refine wpList_app_at rfl (.tmp 33) (.tmp 34) 27 3 i0 (.int .i64 0) 1 8 rfl Try.underlying27 ki hz0 hz1 hz2 rfl (by decide) (by decide) (p + 1 + 1) w6 vf j l2 [.int .i64 0] rfl rown6 rfl rfl (by intro u hu; simp at hu; subst hu; rfl) hjj hsz6 ?_; intro vf2 w7 o7 g7 p7; obtain ⟨fa, fcp, rfl, -, -, -⟩ := OwnK.rd o7 (by decide); have P7 : Hid (Bk w7 (p + 1) #[.int .i64 (n : Int), .int .i64 (d : Int), .int .i64 (r : Int), .slice ca (j + 1) ccp, .slice none 0 0, vf, .slice none 0 0] 30) := (P6.out.alloc _).kept g7 (fun h => by have := (OF6.out.lt h).1; omega); have z7 := P7.out.free 5; have u7 := P7.out.cell 5; simp only [List.getElem?_toArray, List.getElem?_cons_zero, List.getElem?_cons_succ] at u7))
    have R7 : Hid (Bk (w7.setCell ⟨p + 1, 5, none⟩ (.slice fa (j + 1) fcp)) p lz 30) := ((R5.out.alloc _).kept g7 (fun h => by have := (OF6.out.lt h).1; omega)).far (by omega)
    have P8 : Hid (Bk (w7.setCell ⟨p + 1, 5, none⟩ (.slice fa (j + 1) fcp)) (p + 1) #[.int .i64 (n : Int), .int .i64 (d : Int), .int .i64 (r : Int), .slice ca (j + 1) ccp, .slice none 0 0, .slice fa (j + 1) fcp, .slice none 0 0] 30) := show Bk _ _ _ _ from by simpa using P7.out.set 5 (.slice fa (j + 1) fcp)
    have hsz7 : p + 1 + 1 ≤ w7.heap.size := P7.out.lt
    have OC7 : OwnK 3 1 w7 (p + 1 + 1) (.slice ca (j + 1) ccp) (j + 1) (l1 ++ [.int .i64 (d : Int)]) := World.ownsRow.kept (World.ownsRow.alloc OC6.out _) g7 (by
      cases hv : (Value.slice ca (j + 1) ccp).ownBlock with
      | none => exact Or.inl rfl
      | some q => exact Or.inr fun h => NE5.out q hv h.symm)
    have NE7 : Hid (∀ q, (Value.slice ca (j + 1) ccp).ownBlock = some q → (Value.slice fa (j + 1) fcp).ownBlock ≠ some q) := show ∀ q, (Value.slice ca (j + 1) ccp).ownBlock = some q → (Value.slice fa (j + 1) fcp).ownBlock ≠ some q from fun q hq hq2 => by
      rcases p7 with h | h
      · exact NE5.out q hq (by rw [← h]; exact hq2)
      · rw [hq2] at h
        injection h with h
        have := (OC6.out.lt hq).2
        simp at h
        omega
    have B8 : Hid (Below p w (w7.setCell ⟨p + 1, 5, none⟩ (.slice fa (j + 1) fcp))) := ((B6.out.alloc (by omega) _).grown g7 (by simp; omega) (fun q hq => by have := (OF6.out.lt hq).1; omega)).setCell (by show p ≤ p + 1; omega) _
    have OC8 : Hid (OwnK 3 1 (w7.setCell ⟨p + 1, 5, none⟩ (.slice fa (j + 1) fcp)) (p + 1 + 1) (.slice ca (j + 1) ccp) (j + 1) (l1 ++ [.int .i64 (d : Int)])) := OwnK.far OC7 (by omega)
    have OF8 : Hid (OwnK 3 1 (w7.setCell ⟨p + 1, 5, none⟩ (.slice fa (j + 1) fcp)) (p + 1 + 1) (.slice fa (j + 1) fcp) (j + 1) (l2 ++ [.int .i64 0])) := OwnK.far o7 (by omega)
    clear P6 R5 B6 OC6 OF6 NE5 c5 z5 rown6 o7 g7 p7 P7 z7 u7 OC7
    go_wp2
    exact ⟨⟨j + 1, _, _, by omega, by go_num, P8.out, R7.out, B8.out, HV1.out ▸ OC8.out, HV2.out ▸ OF8.out, NE7.out⟩, by simp [RowKit.intOf]; omega⟩
end Go.Proofs.Ytihfekcdghmkhaa
