/-
  The walk of TurnNearer.
-/
import Derived.Test.YtdphimggmjhlaaaDoorTLives
import Derived.Deep.CutRange
namespace Go.Proofs.YtdphimggmjhlaaaDoor
open Go.RowKit

/-- What each option is. -/
theorem near_of {c : Cf} {a b p : Int} (ha : isN c a = true) (hb : isN c b = true) (h : p ∈ opt c a b) :
    bsB c a p = true ∧ (a = b → p = 0) ∧ (a ≠ b → p ≠ 0 ∧ fr c (bsN c a p) b = fr c a b - 1) := by
  by_cases hne : a = b
  · subst hne
    rw [opt_self ha] at h
    obtain rfl : p = 0 := by simpa using h
    obtain ⟨_, h1, h2, h3, h4, _⟩ := place_of ha
    exact ⟨step_mk ha rfl (by rw [show dx 0 = 0 from rfl]; omega) (by rw [show dx 0 = 0 from rfl]; omega) (by rw [show dy 0 = 0 from rfl]; omega) (by rw [show dy 0 = 0 from rfl]; omega), fun _ => rfl, fun h => absurd rfl h⟩
  · obtain ⟨h1, h2, h3⟩ := opt_near ha hb hne h
    exact ⟨h2, fun h => absurd h hne, fun _ => ⟨h1, h3⟩⟩
/-- The forms of what there may be. -/
theorem opt_form {c : Cf} {a b : Int} (ha : isN c a = true) (hb : isN c b = true) : (∃ p, opt c a b = [p]) ∨ (∃ p q, opt c a b = [p, q] ∧ p ≠ q ∧ c.we = true) := by
  have h := opt_len ha hb
  match e : opt c a b, h with
  | [], h => simp at h
  | [p], _ => exact Or.inl ⟨p, rfl⟩
  | [p, q], h =>
    refine Or.inr ⟨p, q, rfl, opt_two e, ?_⟩
    cases hw : c.we with
    | true => rfl
    | false => have := h.2.2 hw; simp at this
  | _ :: _ :: _ :: _, h => simp at h

set_option maxRecDepth 100000 in
set_option maxHeartbeats 2000000 in
theorem turnNearer_any (c : Cf) (a b : Int) (w : World) (hS : Steps w) (hT : Tabs w) : Calls Tryd.prog 5 #[cfv c, .int .i64 a, .int .i64 b] w fun e w' => e = .returned (.bool true) ∧ Below w.heap.size w w' := by
  have T0 : Hid (W1 w c (w.alloc (.cells (cfc c) 23))) := W1.start _ _
  have LV := lives_any _ (T0.out.tabs hT)
  have SM := fun v => small_form c v
  have HS : Hid (Steps w) := hS
  have HT : Hid (Tabs w) := hT
  clear hS hT
  obtain ⟨cw, ch, cl, cd, cr, ci, cb, we, ca⟩ := c
  simp only [cfv, cfc] at *
  go_enter Tryd.func5, Tryd.ntmps5
  go_wp2_with fail
  go_at_call 9
  refine LV.mono ?_
  rintro e v1 ⟨rfl, hb⟩
  have T1 : Hid (W1 w ⟨cw, ch, cl, cd, cr, ci, cb, we, ca⟩ v1) := T0.out.next hb
  clear hb LV T0
  go_upto_region 3 with fail
  go_cut [] from 13 to 14 (fun wc => ∃ c', W1 w c' wc ∧ Fits c')
  case first =>
    obtain ⟨x0, x1, x2, x3, x4, x5, x6, x7, x8⟩ := T1.out.cells
    have z1 := T1.out.lt
    simp only at x0 x1 x2 x3 x4 x5 x6 x7 x8
    go_wp2_with fail
    go_at_call 19
    refine (SM _).mono ?_
    rintro e v2 ⟨dw, dh, dl, dd, dr, di, db, de, da, rfl, hb, f, f1, f2⟩
    have T2 : Hid (W1 w _ v2) := T1.out.next hb
    have HF : Hid (Fits ⟨dw, dh, dl, dd, dr, di, db, de, da⟩) := f
    clear x0 x1 x2 x3 x4 x5 x6 x7 x8 hb SM f f1 f2 z1
    obtain ⟨x0, x1, x2, x3, x4, x5, x6, x7, x8⟩ := T2.out.cells
    obtain ⟨g0, g1, g2, g3, g4, g5, g6, g7, g8⟩ := T2.out.free
    simp only at x0 x1 x2 x3 x4 x5 x6 x7 x8
    go_wp2_with fail
    go_meet
    exact ⟨⟨dw, dh, dl, dd, dr, di, db, de, da⟩, T2.out.all ⟨dw, dh, dl, dd, dr, di, db, de, da⟩, HF.out⟩
  case rest =>
  obtain ⟨c', h2, f⟩ := hcut
  obtain ⟨v2, rfl⟩ : ∃ v2 : World, v2 = wc := ⟨_, rfl⟩
  have T2 : Hid (W1 w c' v2) := h2
  clear h2 T1 SM
  have hc := chk_fits f
  have I1 := nde_in hc a
  have I2 := nde_in hc b
  have N1 := node_any c' hc a
  have N2 := node_any c' hc b
  have OP := fun v h => options_any c' (nde c' a) (nde c' b) v h
  have BE := fun q v h => beside_any c' (nde c' a) q v h
  have FA := fun x => far_any c' x (nde c' b)
  have NE : ∀ q, q ∈ opt c' (nde c' a) (nde c' b) → bsB c' (nde c' a) q = true ∧ (nde c' a = nde c' b → q = 0) ∧ (nde c' a ≠ nde c' b → q ≠ 0 ∧ fr c' (bsN c' (nde c' a) q) (nde c' b) = fr c' (nde c' a) (nde c' b) - 1) := fun q => near_of I1 I2
  have OF := opt_form I1 I2
  have fi := fr_in c' (nde c' a) (nde c' b)
  clear hc f I1 I2
  generalize nde c' a = A at *
  generalize nde c' b = B at *
  generalize opt c' A B = L at *
  have ew : IntKind.i64.wrap (fr c' A B - 1) = fr c' A B - 1 := IntWalk.i64_in _ (by omega)
  generalize bsN c' A = M at *
  generalize bsB c' A = G at *
  obtain ⟨FR, hFR⟩ : ∃ FR : Int → Int, ∀ x, fr c' x B = FR x := ⟨fun x => fr c' x B, fun _ => rfl⟩
  simp only [hFR] at *
  clear hFR fi
  have hLl : L.length ≤ 2 := by
    rcases OF with ⟨p, rfl⟩ | ⟨p, q, rfl, _⟩ <;> simp
  have hLn : ∃ n, L.length = n := ⟨_, rfl⟩
  obtain ⟨n, hn⟩ := hLn
  have Hn : Hid (L.length = n) := hn
  rw [hn] at hLl
  clear hn
  obtain ⟨cw', ch', cl', cd', cr', ci', cb', we', ca'⟩ := c'
  simp only [cfv, cfc] at *
  have HOF : Hid ((∃ p, L = [p]) ∨ (∃ p q, L = [p, q] ∧ p ≠ q ∧ we' = true)) := OF
  have HNE : Hid (∀ q, q ∈ L → G q = true ∧ (A = B → q = 0) ∧ (A ≠ B → q ≠ 0 ∧ FR (M q) = FR A - 1)) := NE
  clear OF NE
  obtain ⟨x0, x1, x2, x3, x4, x5, x6, x7, x8⟩ := T2.out.cells
  have z2 := T2.out.lt
  simp only at x0 x1 x2 x3 x4 x5 x6 x7 x8
  go_wp2_with fail
  go_at_call 20
  refine (N1 _).mono ?_
  rintro e v3 ⟨rfl, hb⟩
  have T3 : Hid (W1 w _ v3) := T2.out.next hb
  clear hb x0 x1 x2 x3 x4 x5 x6 x7 x8 z2 T2 N1
  obtain ⟨x0, x1, x2, x3, x4, x5, x6, x7, x8⟩ := T3.out.cells
  have z2 := T3.out.lt
  simp only at x0 x1 x2 x3 x4 x5 x6 x7 x8
  go_wp2_with fail
  go_at_call 20
  refine (N2 _).mono ?_
  rintro e v4 ⟨rfl, hb⟩
  have T4 : Hid (W1 w _ v4) := T3.out.next hb
  clear hb x0 x1 x2 x3 x4 x5 x6 x7 x8 z2 T3 N2
  obtain ⟨x0, x1, x2, x3, x4, x5, x6, x7, x8⟩ := T4.out.cells
  have z2 := T4.out.lt
  simp only at x0 x1 x2 x3 x4 x5 x6 x7 x8
  go_wp2_with fail
  go_at_call 13
  refine (OP _ (T4.out.tabs HT.out)).mono ?_
  rintro e v5 h5
  obtain ⟨al, xl, rfl, _, rl, hb⟩ := h5.rd
  have T5 : Hid (W1 w _ v5) := T4.out.next hb
  have R5 : Hid (Rd v5 al (vi L)) := rl
  rw [Hn.out]
  clear hb x0 x1 x2 x3 x4 x5 x6 x7 x8 z2 T4 h5 rl OP
  go_wp2_with fail
  go_loopw [8] (fun i wr => ∃ k : Nat, k ≤ n ∧ i = .int .i64 k ∧ W1 w ⟨cw', ch', cl', cd', cr', ci', cb', we', ca'⟩ wr ∧ Rd wr al (vi L)) (fun i _ => n - (RowKit.intOf i).toNat)
  case atStart => exact ⟨0, Nat.zero_le _, rfl, T5.out, R5.out⟩
  case round =>
    obtain ⟨k, hk, rfl, hat, hrd⟩ := hrel
    have z5 := hat.lt
    by_cases hlt : k < n
    · have hltz : (k : Int) < n := by omega
      have hk0 : (0 : Int) ≤ k := by omega
      have hv := vi_at (l := L) (k := k) (by rw [Hn.out]; exact hlt)
      have hm : L.getD k 0 ∈ L := by
        have hkl : k < L.length := by rw [Hn.out]; exact hlt
        rw [List.getD_eq_getElem?_getD, List.getElem?_eq_getElem hkl]
        exact List.getElem_mem _
      obtain ⟨q1, q2, q3⟩ := HNE.out _ hm
      obtain ⟨g, e1, hg, c1⟩ := hrd k _ hv
      have K := BE (L.getD k 0)
      rw [q1] at K
      have HQ2 : Hid (A = B → L.getD k 0 = 0) := q2
      have HQ3 : Hid (A ≠ B → L.getD k 0 ≠ 0 ∧ FR (M (L.getD k 0)) = FR A - 1) := q3
      have F1 := FA (M (L.getD k 0))
      have F2 := FA A
      clear hv hm q1 q2 q3 BE FA
      generalize M (L.getD k 0) = m at *
      generalize L.getD k 0 = q at *
      subst e1
      have HR : Hid (Rd wr (some ⟨g, 0, none⟩) (vi L)) := hrd
      have HAT : Hid (W1 w ⟨cw', ch', cl', cd', cr', ci', cb', we', ca'⟩ wr) := hat
      clear hrd hat R5 T5
      go_wp2_with fail
      have D1 := HAT.out.drew
      have P1 := D1.steps HS.out
      have SC : wr.drew.cell? ⟨g, k, none⟩ = some (.int .i64 q) := c1
      have S1 := And.intro SC D1.cells
      go_region_held3 (fun v => v.cell? ⟨g, k, none⟩ = some (.int .i64 q) ∧ v.cell? ⟨w.heap.size, 0, none⟩ = some (.int .i64 cw') ∧ v.cell? ⟨w.heap.size, 1, none⟩ = some (.int .i64 ch') ∧ v.cell? ⟨w.heap.size, 2, none⟩ = some (.int .i64 cl') ∧ v.cell? ⟨w.heap.size, 3, none⟩ = some (.int .i64 cd') ∧ v.cell? ⟨w.heap.size, 4, none⟩ = some (.int .i64 cr') ∧ v.cell? ⟨w.heap.size, 5, none⟩ = some (.int .i64 ci') ∧ v.cell? ⟨w.heap.size, 6, none⟩ = some (.int .i64 cb') ∧ v.cell? ⟨w.heap.size, 7, none⟩ = some (.bool we') ∧ v.cell? ⟨w.heap.size, 8, none⟩ = some (.bool ca'))
        (first | exact S2 | exact S1 | go_keep)
        ((go_at_call 21; (with_reducible refine (K _ P1).mono ?_); rintro e u2 ⟨rfl, hb2⟩; have D2 := D1.next hb2; have c2 := (hb2.cell (p := ⟨g, k, none⟩) hg).trans SC; have S2 := And.intro c2 D2.cells))
      have A2 : Hid (W1 w ⟨cw', ch', cl', cd', cr', ci', cb', we', ca'⟩ u2) := D2
      have R2 : Hid (Rd u2 (some ⟨g, 0, none⟩) (vi L)) := (show Rd wr.drew (some ⟨g, 0, none⟩) (vi L) from HR.out).below hb2
      have hg2 : g < u2.heap.size := Nat.lt_of_lt_of_le hg hb2.size
      clear D1 P1 SC S1 D2 S2 hb2 HR HAT c1 K hg
      by_cases hAB : A = B
      · subst hAB
        obtain rfl := HQ2.out rfl
        clear F1 F2 HQ2 HQ3 ew
        have HD : Hid (∀ j, W1 w ⟨cw', ch', cl', cd', cr', ci', cb', we', ca'⟩ (u2.drewN j)) := fun j => A2.out.drewN j
        have HRD : Hid (∀ j, Rd (u2.drewN j) (some ⟨g, 0, none⟩) (vi L)) := fun j => R2.out
        go_wp2_with fail
        go_quiet (fail)
        go_wp2
        go_roundw
        case rel => exact ⟨k + 1, by omega, by go_num, HD.out _, HRD.out _⟩
        case measure => simp [RowKit.intOf]; omega
      · obtain ⟨hq0, hf⟩ := HQ3.out hAB
        have b1 : (q == 0) = false := by simp [hq0]
        have b2 : (A == B) = false := by simp [hAB]
        have b3 : (A != B) = true := by simp [hAB]
        obtain ⟨d, hd⟩ : ∃ d, FR A - 1 = d := ⟨_, rfl⟩
        have ed := ew.trans hd
        rw [hf, hd] at F1
        clear HQ2 HQ3 hf hd ew HNE
        generalize FR A = D at *
        go_wp2_with fail
        have D1 := A2.out.drew
        have SC : u2.drew.cell? ⟨g, k, none⟩ = some (.int .i64 q) := c2
        have S1 := And.intro SC D1.cells
        go_region_held3 (fun v => v.cell? ⟨g, k, none⟩ = some (.int .i64 q) ∧ v.cell? ⟨w.heap.size, 0, none⟩ = some (.int .i64 cw') ∧ v.cell? ⟨w.heap.size, 1, none⟩ = some (.int .i64 ch') ∧ v.cell? ⟨w.heap.size, 2, none⟩ = some (.int .i64 cl') ∧ v.cell? ⟨w.heap.size, 3, none⟩ = some (.int .i64 cd') ∧ v.cell? ⟨w.heap.size, 4, none⟩ = some (.int .i64 cr') ∧ v.cell? ⟨w.heap.size, 5, none⟩ = some (.int .i64 ci') ∧ v.cell? ⟨w.heap.size, 6, none⟩ = some (.int .i64 cb') ∧ v.cell? ⟨w.heap.size, 7, none⟩ = some (.bool we') ∧ v.cell? ⟨w.heap.size, 8, none⟩ = some (.bool ca'))
          (first | exact S4 | exact S3 | exact S1 | go_keep)
          (first
            | (go_at_call 22; (with_reducible refine (F1 _).mono ?_); rintro e u3 ⟨rfl, hb3⟩; have D3 := D1.next hb3; have c3 := (hb3.cell (p := ⟨g, k, none⟩) hg2).trans SC; have hg3 := Nat.lt_of_lt_of_le hg2 hb3.size; have S3 := And.intro c3 D3.cells)
            | (go_at_call 22; (with_reducible refine (F2 _).mono ?_); rintro e u4 ⟨rfl, hb4⟩; have D4 := D3.next hb4; have c4 := (hb4.cell (p := ⟨g, k, none⟩) hg3).trans c3; have S4 := And.intro c4 D4.cells))
        have A4 : Hid (W1 w ⟨cw', ch', cl', cd', cr', ci', cb', we', ca'⟩ u4) := D4
        have R4 : Hid (Rd u4 (some ⟨g, 0, none⟩) (vi L)) := ((show Rd u2.drew (some ⟨g, 0, none⟩) (vi L) from R2.out).below hb3).below hb4
        clear D1 SC S1 D3 c3 S3 D4 c4 S4 hb3 hb4 hg2 hg3 F1 F2 A2 R2 c2
        go_wp2
        go_roundw
        case rel => exact ⟨k + 1, by omega, by go_num, A4.out, R4.out⟩
        case measure => simp [RowKit.intOf]; omega
    · obtain rfl : k = n := by omega
      have HR : Hid (Rd wr al (vi L)) := hrd
      have HAT : Hid (W1 w ⟨cw', ch', cl', cd', cr', ci', cb', we', ca'⟩ wr) := hat
      have x7 := hat.cells.2.2.2.2.2.2.2.1
      simp only at x7
      clear hat hrd R5 T5 BE FA
      rcases HOF.out with ⟨p, rfl⟩ | ⟨p, q, rfl, hpq, rfl⟩
      · obtain rfl : 1 = k := Hn.out
        clear ew
        have HW : Hid (∀ j, Below w.heap.size w (wr.drewN j)) := fun j => (HAT.out.drewN j).below
        cases we' with
        | true =>
          go_wp2_with fail
          go_quiet (fail)
          go_wp2
          go_ret
          exact ⟨rfl, HW.out _⟩
        | false =>
          go_wp2_with fail
          go_quiet (fail)
          go_wp2
          go_ret
          exact ⟨rfl, HW.out _⟩
      · obtain rfl : 2 = k := Hn.out
        obtain ⟨g, rfl, _, c0⟩ := HR.out 0 _ rfl
        obtain ⟨g', e', _, c1⟩ := HR.out 1 _ rfl
        obtain rfl : g = g' := by simpa using e'
        have b1 : (p == q) = false := by simp [hpq]
        have HPQ : Hid (p ≠ q) := hpq
        clear ew e' hpq
        have HW : Hid (∀ j, Below w.heap.size w (wr.drewN j)) := fun j => (HAT.out.drewN j).below
        go_wp2_with fail
        go_quiet (fail)
        go_wp2
        go_ret
        exact ⟨by simp; exact HPQ.out, HW.out _⟩
end Go.Proofs.YtdphimggmjhlaaaDoor
