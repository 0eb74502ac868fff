/-
  The walk of ConfigBack.
-/
import Derived.Test.YtkebplapjkefiaaDoorEq
namespace Go.Proofs.YtkebplapjkefiaaDoor
open Go.RowKit Go.Lib

theorem short_len {n : Int} (h : short n) : (itoa n).length ≤ 10 := by
  have h1 := le_bare (itoa n)
  have h2 := bare_short n h
  omega
theorem txt_len {c : Cf} (h : bnd c) : (txt c).length ≤ 90 := by
  obtain ⟨h1, h2, h3, h4, h5, h6, h7⟩ := h
  have g1 := short_len h1
  have g2 := short_len h2
  have g3 := short_len h3
  have g4 := short_len h4
  have g5 := short_len h5
  have g6 := short_len h6
  have g7 := short_len h7
  unfold txt tailW tailC west cast
  cases c.we <;> cases c.ca <;> simp <;> omega
theorem txt_1000 {c : Cf} (h : In c) : (txt c).length ≤ 1000 := by
  have := words_len c h
  rw [join_words] at this
  exact this

/-- What comes of a text cut at its hundredth byte. -/
theorem second {s : L} (h : (rd (s.take 100)).2 = 0) : txt (rd (s.take 100)).1 = s ∧ chk (rd (s.take 100)).1 = 0 ∧ In (rd (s.take 100)).1 := by
  obtain ⟨h1, h2, h3⟩ := rd_ok h
  refine ⟨?_, h2, bnd_in h3⟩
  have hl := txt_len h3
  rw [h1] at hl ⊢
  rw [List.length_take] at hl
  exact List.take_of_length_le (by omega)

set_option maxRecDepth 100000 in
set_option maxHeartbeats 2000000 in
theorem back_two (c r1 : Cf) (n1 k : Int) (S X : ByteArray) (hi : In c) (w : World) (hE : Env w) (hS : S.size ≤ 9223372036854775807)
    (hX : S.extract 0 (min (S.size : Int) 100).toNat = X)
    (RA : ∀ v, Env v → Calls Tryd.prog 17 #[.string (bs (txt c))] v fun e w' => e = .returned (.tuple #[cfv r1, .int .i64 n1]) ∧ Below v.heap.size v w')
    (CK : ∀ v, Calls Tryd.prog 11 #[cfv c] v fun e w' => e = .returned (.int .i64 k) ∧ Below v.heap.size v w')
    (hr : (n1 = 0 ∧ r1 = c ∧ k = 0) ∨ (n1 ≠ 0 ∧ r1 = zc ∧ k ≠ 0))
    (r2 : Cf) (n2 : Int)
    (RB : ∀ v, Env v → Calls Tryd.prog 17 #[.string X] v fun e w' => e = .returned (.tuple #[cfv r2, .int .i64 n2]) ∧ Below v.heap.size v w')
    (h2 : n2 = 0 → bs (txt r2) = S ∧ chk r2 = 0 ∧ In r2) :
    Calls Tryd.prog 5 #[cfv c, .string S] w fun e w' => e = .returned (.bool true) ∧ Below w.heap.size w w' := by
  have A_v0 : Hid (At w c (w.alloc (.cells (cfc c) 23))) := At.start w c
  have HE : Hid (Env w) := hE
  have h6 : 6 ≤ w.heap.size := hE.1
  have LV := lives_any _ (At.env (At.start w c) hE)
  have TX := fun v hv => text_any c hi v hv
  generalize bs (txt c) = TT at *
  have G := Tryd.cfGuard
  clear hE hi
  have HTS : Hid (n2 = 0 → bs (txt r2) = S ∧ chk r2 = 0 ∧ In r2) := h2
  clear h2
  by_cases hn2 : n2 = 0
  · subst hn2
    obtain ⟨hts, hc2, hi2⟩ := HTS.out rfl
    have TY := fun v hv => text_any r2 hi2 v hv
    have CY := fun v => check_any r2 v
    rw [hts] at TY
    rw [hc2] at CY
    clear HTS hts hc2 hi2
    rcases hr with ⟨hn1, hr1, hk⟩ | ⟨hn1, hr1, hk⟩
    · subst hn1
      subst hr1
      subst hk
      have E := fun v => run_ne_cf r1 r1 v
      rw [Cf.eqB_self] at E
      obtain ⟨cw, ch, cl, cd, cr, ci, cb, we, ca⟩ := r1
      obtain ⟨dw, dh, dl, dd, dr, di, db, de, da⟩ := r2
      simp only [cfv, cfc] at *
      go_enter Tryd.func5, Tryd.ntmps5
      go_wp2_with fail
      go_at_call 8
      refine LV.mono ?_
      rintro e v1 ⟨rfl, hb⟩
      have A_v1 : Hid (At w _ v1) := A_v0.out.trans hb
      clear hb LV
      obtain ⟨x0, x1, x2, x3, x4, x5, x6, x7, x8⟩ := A_v1.out.cells
      simp only at x0 x1 x2 x3 x4 x5 x6 x7 x8
      go_wp2_with fail
      go_at_call 15
      refine (TX _ (A_v1.out.env HE.out)).mono ?_
      rintro e v2 ⟨rfl, hb⟩
      have A_v2 : Hid (At w _ v2) := A_v1.out.trans hb
      clear x0 x1 x2 x3 x4 x5 x6 x7 x8 hb TX
      go_wp2_with fail
      go_at_call 17
      refine (RA _ (A_v2.out.env HE.out)).mono ?_
      rintro e v3 ⟨rfl, hb⟩
      have A_v3 : Hid (At w _ v3) := A_v2.out.trans hb
      have hz3 : w.heap.size < v3.heap.size := by have := A_v3.out.size; omega
      obtain ⟨x0, x1, x2, x3, x4, x5, x6, x7, x8⟩ := A_v3.out.cells
      simp only at x0 x1 x2 x3 x4 x5 x6 x7 x8
      clear hb RA
      go_wp2_with fail
      go_at_call 11
      refine (CK _).mono ?_
      rintro e v4 ⟨rfl, hb⟩
      have A_v4 : Hid (At w _ v4) := (A_v3.out.alloc (.cells (cfc ⟨cw, ch, cl, cd, cr, ci, cb, we, ca⟩) 23)).trans hb
      have K4 : Hid (Blk v4 v3.heap.size ⟨cw, ch, cl, cd, cr, ci, cb, we, ca⟩) := (Blk.new v3 ⟨cw, ch, cl, cd, cr, ci, cb, we, ca⟩).below hb
      obtain ⟨⟨y0, y1, y2, y3, y4, y5, y6, y7, y8⟩, -⟩ := K4.out.nine
      simp only at y0 y1 y2 y3 y4 y5 y6 y7 y8
      clear x0 x1 x2 x3 x4 x5 x6 x7 x8 hb CK
      go_wp2_with fail
      go_at_call 17
      refine (RB _ (A_v4.out.env HE.out)).mono ?_
      rintro e v5 ⟨rfl, hb⟩
      have A_v5 : Hid (At w _ v5) := A_v4.out.trans hb
      have hz5 : w.heap.size ≤ v5.heap.size := by have := A_v5.out.size; omega
      clear y0 y1 y2 y3 y4 y5 y6 y7 y8 hb RB E
      go_wp2_with fail
      go_at_call 15
      refine (TY _ ((A_v5.out.alloc _).env HE.out)).mono ?_
      rintro e v6 ⟨rfl, hb⟩
      have A_v6 : Hid (At w _ v6) := (A_v5.out.alloc (.cells (cfc ⟨dw, dh, dl, dd, dr, di, db, de, da⟩) 23)).trans hb
      have K6 : Hid (Blk v6 v5.heap.size ⟨dw, dh, dl, dd, dr, di, db, de, da⟩) := (Blk.new v5 ⟨dw, dh, dl, dd, dr, di, db, de, da⟩).below hb
      obtain ⟨⟨x0, x1, x2, x3, x4, x5, x6, x7, x8⟩, -⟩ := K6.out.nine
      simp only at x0 x1 x2 x3 x4 x5 x6 x7 x8
      clear hb TY
      go_wp2_with fail
      go_at_call 11
      refine (CY _).mono ?_
      rintro e v7 ⟨rfl, hb⟩
      have A_v7 : Hid (At w _ v7) := A_v6.out.trans hb
      clear x0 x1 x2 x3 x4 x5 x6 x7 x8 hb CY
      go_wp2
      go_ret
      exact ⟨rfl, A_v7.out.below⟩
    · have t1 : (n1 == 0) = false := by simpa using hn1
      have t2 : (n1 != 0) = true := by simpa using hn1
      have t3 : (k == 0) = false := by simpa using hk
      subst hr1
      have E := fun v => run_ne_cf zc zc v
      rw [Cf.eqB_self] at E
      clear hn1 hk
      obtain ⟨cw, ch, cl, cd, cr, ci, cb, we, ca⟩ := c
      obtain ⟨dw, dh, dl, dd, dr, di, db, de, da⟩ := r2
      simp only [cfv, cfc, zc] at *
      go_enter Tryd.func5, Tryd.ntmps5
      go_wp2_with fail
      go_at_call 8
      refine LV.mono ?_
      rintro e v1 ⟨rfl, hb⟩
      have A_v1 : Hid (At w _ v1) := A_v0.out.trans hb
      clear hb LV
      obtain ⟨x0, x1, x2, x3, x4, x5, x6, x7, x8⟩ := A_v1.out.cells
      simp only at x0 x1 x2 x3 x4 x5 x6 x7 x8
      go_wp2_with fail
      go_at_call 15
      refine (TX _ (A_v1.out.env HE.out)).mono ?_
      rintro e v2 ⟨rfl, hb⟩
      have A_v2 : Hid (At w _ v2) := A_v1.out.trans hb
      clear x0 x1 x2 x3 x4 x5 x6 x7 x8 hb TX
      go_wp2_with fail
      go_at_call 17
      refine (RA _ (A_v2.out.env HE.out)).mono ?_
      rintro e v3 ⟨rfl, hb⟩
      have A_v3 : Hid (At w _ v3) := A_v2.out.trans hb
      have hz3 : w.heap.size < v3.heap.size := by have := A_v3.out.size; omega
      obtain ⟨x0, x1, x2, x3, x4, x5, x6, x7, x8⟩ := A_v3.out.cells
      simp only at x0 x1 x2 x3 x4 x5 x6 x7 x8
      clear hb RA
      go_wp2_with fail
      go_at_call 11
      refine (CK _).mono ?_
      rintro e v4 ⟨rfl, hb⟩
      have A_v4 : Hid (At w _ v4) := (A_v3.out.alloc (.cells (cfc zc) 23)).trans hb
      have K4 : Hid (Blk v4 v3.heap.size zc) := (Blk.new v3 zc).below hb
      obtain ⟨⟨y0, y1, y2, y3, y4, y5, y6, y7, y8⟩, -⟩ := K4.out.nine
      simp only [zc] at y0 y1 y2 y3 y4 y5 y6 y7 y8
      clear x0 x1 x2 x3 x4 x5 x6 x7 x8 hb CK
      go_wp2_with fail
      go_at_call 17
      refine (RB _ (A_v4.out.env HE.out)).mono ?_
      rintro e v5 ⟨rfl, hb⟩
      have A_v5 : Hid (At w _ v5) := A_v4.out.trans hb
      have hz5 : w.heap.size ≤ v5.heap.size := by have := A_v5.out.size; omega
      clear y0 y1 y2 y3 y4 y5 y6 y7 y8 hb RB E
      go_wp2_with fail
      go_at_call 15
      refine (TY _ ((A_v5.out.alloc _).env HE.out)).mono ?_
      rintro e v6 ⟨rfl, hb⟩
      have A_v6 : Hid (At w _ v6) := (A_v5.out.alloc (.cells (cfc ⟨dw, dh, dl, dd, dr, di, db, de, da⟩) 23)).trans hb
      have K6 : Hid (Blk v6 v5.heap.size ⟨dw, dh, dl, dd, dr, di, db, de, da⟩) := (Blk.new v5 ⟨dw, dh, dl, dd, dr, di, db, de, da⟩).below hb
      obtain ⟨⟨x0, x1, x2, x3, x4, x5, x6, x7, x8⟩, -⟩ := K6.out.nine
      simp only at x0 x1 x2 x3 x4 x5 x6 x7 x8
      clear hb TY
      go_wp2_with fail
      go_at_call 11
      refine (CY _).mono ?_
      rintro e v7 ⟨rfl, hb⟩
      have A_v7 : Hid (At w _ v7) := A_v6.out.trans hb
      clear x0 x1 x2 x3 x4 x5 x6 x7 x8 hb CY
      go_wp2
      go_ret
      exact ⟨rfl, A_v7.out.below⟩
  · have t4 : (n2 != 0) = true := by simpa using hn2
    clear HTS hn2
    rcases hr with ⟨hn1, hr1, hk⟩ | ⟨hn1, hr1, hk⟩
    · subst hn1
      subst hr1
      subst hk
      have E := fun v => run_ne_cf r1 r1 v
      rw [Cf.eqB_self] at E
      obtain ⟨cw, ch, cl, cd, cr, ci, cb, we, ca⟩ := r1
      obtain ⟨dw, dh, dl, dd, dr, di, db, de, da⟩ := r2
      simp only [cfv, cfc] at *
      go_enter Tryd.func5, Tryd.ntmps5
      go_wp2_with fail
      go_at_call 8
      refine LV.mono ?_
      rintro e v1 ⟨rfl, hb⟩
      have A_v1 : Hid (At w _ v1) := A_v0.out.trans hb
      clear hb LV
      obtain ⟨x0, x1, x2, x3, x4, x5, x6, x7, x8⟩ := A_v1.out.cells
      simp only at x0 x1 x2 x3 x4 x5 x6 x7 x8
      go_wp2_with fail
      go_at_call 15
      refine (TX _ (A_v1.out.env HE.out)).mono ?_
      rintro e v2 ⟨rfl, hb⟩
      have A_v2 : Hid (At w _ v2) := A_v1.out.trans hb
      clear x0 x1 x2 x3 x4 x5 x6 x7 x8 hb TX
      go_wp2_with fail
      go_at_call 17
      refine (RA _ (A_v2.out.env HE.out)).mono ?_
      rintro e v3 ⟨rfl, hb⟩
      have A_v3 : Hid (At w _ v3) := A_v2.out.trans hb
      have hz3 : w.heap.size < v3.heap.size := by have := A_v3.out.size; omega
      obtain ⟨x0, x1, x2, x3, x4, x5, x6, x7, x8⟩ := A_v3.out.cells
      simp only at x0 x1 x2 x3 x4 x5 x6 x7 x8
      clear hb RA
      go_wp2_with fail
      go_at_call 11
      refine (CK _).mono ?_
      rintro e v4 ⟨rfl, hb⟩
      have A_v4 : Hid (At w _ v4) := (A_v3.out.alloc (.cells (cfc ⟨cw, ch, cl, cd, cr, ci, cb, we, ca⟩) 23)).trans hb
      have K4 : Hid (Blk v4 v3.heap.size ⟨cw, ch, cl, cd, cr, ci, cb, we, ca⟩) := (Blk.new v3 ⟨cw, ch, cl, cd, cr, ci, cb, we, ca⟩).below hb
      obtain ⟨⟨y0, y1, y2, y3, y4, y5, y6, y7, y8⟩, -⟩ := K4.out.nine
      simp only at y0 y1 y2 y3 y4 y5 y6 y7 y8
      clear x0 x1 x2 x3 x4 x5 x6 x7 x8 hb CK
      go_wp2_with fail
      go_at_call 17
      refine (RB _ (A_v4.out.env HE.out)).mono ?_
      rintro e v5 ⟨rfl, hb⟩
      have A_v5 : Hid (At w _ v5) := A_v4.out.trans hb
      have hz5 : w.heap.size ≤ v5.heap.size := by have := A_v5.out.size; omega
      clear y0 y1 y2 y3 y4 y5 y6 y7 y8 hb RB E
      go_wp2
      go_ret
      exact ⟨rfl, A_v5.out.below.alloc hz5 _⟩
    · have t1 : (n1 == 0) = false := by simpa using hn1
      have t2 : (n1 != 0) = true := by simpa using hn1
      have t3 : (k == 0) = false := by simpa using hk
      subst hr1
      have E := fun v => run_ne_cf zc zc v
      rw [Cf.eqB_self] at E
      clear hn1 hk
      obtain ⟨cw, ch, cl, cd, cr, ci, cb, we, ca⟩ := c
      obtain ⟨dw, dh, dl, dd, dr, di, db, de, da⟩ := r2
      simp only [cfv, cfc, zc] at *
      go_enter Tryd.func5, Tryd.ntmps5
      go_wp2_with fail
      go_at_call 8
      refine LV.mono ?_
      rintro e v1 ⟨rfl, hb⟩
      have A_v1 : Hid (At w _ v1) := A_v0.out.trans hb
      clear hb LV
      obtain ⟨x0, x1, x2, x3, x4, x5, x6, x7, x8⟩ := A_v1.out.cells
      simp only at x0 x1 x2 x3 x4 x5 x6 x7 x8
      go_wp2_with fail
      go_at_call 15
      refine (TX _ (A_v1.out.env HE.out)).mono ?_
      rintro e v2 ⟨rfl, hb⟩
      have A_v2 : Hid (At w _ v2) := A_v1.out.trans hb
      clear x0 x1 x2 x3 x4 x5 x6 x7 x8 hb TX
      go_wp2_with fail
      go_at_call 17
      refine (RA _ (A_v2.out.env HE.out)).mono ?_
      rintro e v3 ⟨rfl, hb⟩
      have A_v3 : Hid (At w _ v3) := A_v2.out.trans hb
      have hz3 : w.heap.size < v3.heap.size := by have := A_v3.out.size; omega
      obtain ⟨x0, x1, x2, x3, x4, x5, x6, x7, x8⟩ := A_v3.out.cells
      simp only at x0 x1 x2 x3 x4 x5 x6 x7 x8
      clear hb RA
      go_wp2_with fail
      go_at_call 11
      refine (CK _).mono ?_
      rintro e v4 ⟨rfl, hb⟩
      have A_v4 : Hid (At w _ v4) := (A_v3.out.alloc (.cells (cfc zc) 23)).trans hb
      have K4 : Hid (Blk v4 v3.heap.size zc) := (Blk.new v3 zc).below hb
      obtain ⟨⟨y0, y1, y2, y3, y4, y5, y6, y7, y8⟩, -⟩ := K4.out.nine
      simp only [zc] at y0 y1 y2 y3 y4 y5 y6 y7 y8
      clear x0 x1 x2 x3 x4 x5 x6 x7 x8 hb CK
      go_wp2_with fail
      go_at_call 17
      refine (RB _ (A_v4.out.env HE.out)).mono ?_
      rintro e v5 ⟨rfl, hb⟩
      have A_v5 : Hid (At w _ v5) := A_v4.out.trans hb
      have hz5 : w.heap.size ≤ v5.heap.size := by have := A_v5.out.size; omega
      clear y0 y1 y2 y3 y4 y5 y6 y7 y8 hb RB E
      go_wp2
      go_ret
      exact ⟨rfl, A_v5.out.below.alloc hz5 _⟩

theorem configBack_any (c : Cf) (hi : In c) (S : ByteArray) (hs : S.size ≤ maxLen) (w : World) (hE : Env w) : Calls Tryd.prog 5 #[cfv c, .string S] w fun e w' => e = .returned (.bool true) ∧ Below w.heap.size w w' := by
  unfold maxLen at hs
  obtain ⟨X, hX, hl⟩ := cut_100 S
  have hlen : X.data.toList.length ≤ 100 := by rw [hl, List.length_take]; omega
  have RB := fun v hv => read_any X.data.toList (by omega) v hv
  rw [bs_data] at RB
  unfold RdP at RB
  refine back_two c (rd (txt c)).1 (rd (txt c)).2 (chk c) S X hi w hE (by omega) hX (fun v hv => read_any (txt c) (txt_1000 hi) v hv) (fun v => check_any c v) ?_ (rd X.data.toList).1 (rd X.data.toList).2 RB ?_
  · by_cases h : (rd (txt c)).2 = 0
    · have h2 := rd_back c h
      have h3 := (rd_ok h).2.1
      rw [h2] at h3
      exact Or.inl ⟨h, h2, h3⟩
    · refine Or.inr ⟨h, rd_no h, fun hc => h ?_⟩
      rw [rd_txt c hc]
  · intro h
    rw [hl] at h ⊢
    obtain ⟨h1, h2, h3⟩ := second h
    refine ⟨?_, h2, h3⟩
    rw [h1, bs_data]
end Go.Proofs.YtkebplapjkefiaaDoor
