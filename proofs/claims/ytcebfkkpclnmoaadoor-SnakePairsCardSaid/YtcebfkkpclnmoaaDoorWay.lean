/-
  The walks of snake's Way and Steps. (Written by gen_way.py.)
-/
import Derived.Test.YtcebfkkpclnmoaaDoorStp
import Derived.Test.YtcebfkkpclnmoaaDoorAre
namespace Go.Proofs.YtcebfkkpclnmoaaDoor
open Go.RowKit

/-- A way goal by goal, and node by node. -/
theorem way_inv {c : Cf} {a : Int} (ts : List Int) (ha : isN c a = true) (hl : ts.length ≤ 200) : ∃ (W : Nat → List Int) (CU : Nat → Int) (GD : Nat → Prop) (IV : Nat → Int → List Int → Prop),
    W 0 = [a] ∧ CU 0 = a ∧ GD 0 ∧
    (∀ k, k < ts.length → GD k → isN c (ts.getD k 0) = true → GD (k + 1)) ∧
    (∀ k, k < ts.length → isN c (ts.getD k 0) = false → wys c a ts = []) ∧
    (GD ts.length → W ts.length = wys c a ts) ∧
    (areN c ts = true → ∀ k, k ≤ ts.length → GD k) ∧
    (∀ k, k < ts.length → GD (k + 1) → IV k (CU k) (W k)) ∧
    (∀ k m X, k < ts.length → IV k m X → X.length ≤ 900000) ∧
    (∀ k m X, k < ts.length → IV k m X → m ≠ ts.getD k 0 → IV k (nx c m (ts.getD k 0)) (X ++ [nx c m (ts.getD k 0)]) ∧ apt c (nx c m (ts.getD k 0)) (ts.getD k 0) < apt c m (ts.getD k 0)) ∧
    (∀ k X, k < ts.length → IV k (ts.getD k 0) X → X = W (k + 1) ∧ CU (k + 1) = ts.getD k 0) := by
  have tk : ∀ k, k < ts.length → ts.take (k + 1) = ts.take k ++ [ts.getD k 0] := by
    intro k hk
    rw [getD_at hk, List.take_succ_eq_append_getElem hk]
  refine ⟨fun k => a :: wyL c a (ts.take k), fun k => lst a (ts.take k), fun k => ∀ n ∈ ts.take k, isN c n = true,
    fun k m X => (∀ n ∈ ts.take (k + 1), isN c n = true) ∧ isN c m = true ∧ X ++ wy c m (ts.getD k 0) = a :: wyL c a (ts.take (k + 1)),
    rfl, rfl, ?_, ?_, ?_, ?_, ?_, ?_, ?_, ?_, ?_⟩
  · intro n hn
    rw [List.take_zero] at hn
    cases hn
  · intro k hk h h1 n hn
    rw [tk k hk] at hn
    rcases List.mem_append.1 hn with hn | hn
    · exact h n hn
    · rw [List.mem_singleton] at hn
      exact hn ▸ h1
  · intro k hk h
    unfold wys
    rw [if_neg]
    intro e
    unfold wyB at e
    simp only [Bool.and_eq_true] at e
    have := areN_iff.1 e.2 _ (getD_mem hk)
    rw [h] at this
    cases this
  · intro h
    rw [List.take_length] at h
    show a :: wyL c a (ts.take ts.length) = _
    rw [List.take_length]
    exact (wys_ok ha h).symm
  · intro h k _ n hn
    exact areN_iff.1 h n (List.mem_of_mem_take hn)
  · intro k hk h
    refine ⟨h, lst_is ha (fun n hn => h n (by rw [tk k hk]; exact List.mem_append_left _ hn)), ?_⟩
    rw [tk k hk, wyL_snoc]
    rfl
  · rintro k m X hk ⟨h1, _, h3⟩
    have e := congrArg List.length h3
    rw [List.length_append, List.length_cons] at e
    have l := wyL_len ha h1
    rw [List.length_take] at l
    have : min (k + 1) ts.length ≤ 200 := by omega
    have : min (k + 1) ts.length * 4096 ≤ 200 * 4096 := Nat.mul_le_mul_right _ this
    omega
  · rintro k m X hk ⟨h1, h2, h3⟩ hne
    have ht : isN c (ts.getD k 0) = true := h1 _ (by rw [tk k hk]; exact List.mem_append_right _ (List.mem_singleton.2 rfl))
    refine ⟨⟨h1, (nx_ok h2 ht hne).2.2.2.1, ?_⟩, apt_lt h2 ht hne⟩
    rw [← h3, wy_step h2 ht hne, List.append_assoc]
    rfl
  · rintro k X hk ⟨h1, h2, h3⟩
    rw [wy_end, List.append_nil] at h3
    exact ⟨h3, by show lst a (ts.take (k + 1)) = _; rw [tk k hk]; exact lst_snoc _ _ _⟩

set_option maxRecDepth 100000 in
set_option maxHeartbeats 2000000 in
theorem way_any (c : Cf) (a : Int) (s : Option Addr) (ts : List Int) (cap : Nat) (w : World) (hS : Steps w) (hl : ts.length ≤ 200) (hr : RdA w s (vi ts)) :
    Calls Tryd.prog 22 #[cfv c, .int .i64 a, .slice s ts.length cap] w (Row w (wys c a ts)) := by
  obtain ⟨i0, ki, hz0, hz1, hz2⟩ := info_parts Tryd.info3
  have A0 : Hid (At w c (w.alloc (.cells (cfc c) 23))) := At.start w c
  have HS : Hid (Steps w) := hS
  have HR : Hid (RdA w s (vi ts)) := hr
  have K1 := is_any c a
  have K2 := fun v h => areNodes_any c s ts cap v (by omega) h
  have HL : Hid (ts.length ≤ 200) := hl
  clear hS hr
  cases ha : isN c a with
  | false =>
    have e : wys c a ts = [] := by unfold wys wyB; rw [ha]; rfl
    rw [e]
    rw [ha] at K1
    clear K2 e ha HL hl
    generalize ts.length = n at *
    obtain ⟨cw, ch, cl, cd, cr, ci, cb, we, ca⟩ := c
    simp only [cfv, cfc] at *
    go_enter Tryd.func22, Tryd.ntmps22
    go_wp2_with fail
    go_at_call 39
    refine (K1 _).mono ?_
    rintro e v1 ⟨rfl, hb⟩
    have HA1 : Hid (At w _ v1) := A0.out.trans hb
    clear hb K1 
    go_wp2
    go_ret
    exact Row.mk (Own.nil _ _ _) HA1.out.below
  | true =>
    rw [ha] at K1
    cases ht : areN c ts with
    | false =>
      have e : wys c a ts = [] := by unfold wys wyB; rw [ha, ht]; rfl
      rw [e]
      rw [ht] at K2
      clear e ha ht HL
      generalize hn : ts.length = n at *
      clear hn
      obtain ⟨cw, ch, cl, cd, cr, ci, cb, we, ca⟩ := c
      simp only [cfv, cfc] at *
      go_enter Tryd.func22, Tryd.ntmps22
      go_wp2_with fail
      go_at_call 39
      refine (K1 _).mono ?_
      rintro e v1 ⟨rfl, hb⟩
      have HA1 : Hid (At w _ v1) := A0.out.trans hb
      clear hb K1 
      obtain ⟨x0, x1, x2, x3, x4, x5, x6, x7, x8⟩ := HA1.out.cells
      simp only at x0 x1 x2 x3 x4 x5 x6 x7 x8
      go_wp2_with fail
      go_at_call 40
      refine (K2 _ (HR.out.below HA1.out.below)).mono ?_
      rintro e v2 ⟨rfl, hb⟩
      have HA2 : Hid (At w _ v2) := HA1.out.trans hb
      clear hb K2 HA1 x0 x1 x2 x3 x4 x5 x6 x7 x8 
      go_wp2
      go_ret
      exact Row.mk (Own.nil _ _ _) HA2.out.below
    | true =>
      rw [ht] at K2
      obtain ⟨W, CU, GD, IV, I1, I2, I3, I4, I5, I6, J7, J8, I9, I10, I11⟩ := way_inv (c := c) (a := a) ts ha hl
      have I12 := I6 (J7 ht _ (Nat.le_refl _))
      have I7 := J7 ht
      have SP := fun m g v h => step_any c m g v h
      have BE := fun m g v h => beside_any c m (stp c m g) v h
      have NE : ∀ m g, bsN c m (stp c m g) = nx c m g := fun _ _ => rfl
      simp only [NE] at BE
      have I8 : ∀ k, k < ts.length → IV k (CU k) (W k) := fun k hk => J8 k hk (I7 (k + 1) (by omega))
      clear NE I3 I4 I5 I6 I7 J7 J8 ha ht hl GD
      rw [← I12]
      clear I12
      generalize stp c = SPF at *
      generalize stB c = SBF at *
      generalize nx c = NXF at *
      generalize apt c = APF at *
      generalize bsB c = GB at *
      have HI8 : Hid (∀ k, k < ts.length → IV k (CU k) (W k)) := I8
      have HI9 : Hid (∀ k m X, k < ts.length → IV k m X → X.length ≤ 900000) := I9
      have HI10 : Hid (∀ k m X, k < ts.length → IV k m X → m ≠ ts.getD k 0 → IV k (NXF m (ts.getD k 0)) (X ++ [NXF m (ts.getD k 0)]) ∧ APF (NXF m (ts.getD k 0)) (ts.getD k 0) < APF m (ts.getD k 0)) := I10
      have HI11 : Hid (∀ k X, k < ts.length → IV k (ts.getD k 0) X → X = W (k + 1) ∧ CU (k + 1) = ts.getD k 0) := I11
      have HI1 : Hid (W 0 = [a] ∧ CU 0 = a) := ⟨I1, I2⟩
      clear I1 I2 I8 I9 I10 I11
      obtain ⟨n, hn⟩ : ∃ n, ts.length = n := ⟨_, rfl⟩
      have HN : Hid (ts.length = n) := hn
      rw [hn] at K2 HI8 HI9 HI10 HI11 HL ⊢
      clear hn
      have hn2 : n ≤ 200 := HL.out
      obtain ⟨cw, ch, cl, cd, cr, ci, cb, we, ca⟩ := c
      simp only [cfv, cfc] at *
      go_enter Tryd.func22, Tryd.ntmps22
      go_wp2_with fail
      go_at_call 39
      refine (K1 _).mono ?_
      rintro e v1 ⟨rfl, hb⟩
      have HA1 : Hid (At w _ v1) := A0.out.trans hb
      clear hb K1 
      obtain ⟨x0, x1, x2, x3, x4, x5, x6, x7, x8⟩ := HA1.out.cells
      simp only at x0 x1 x2 x3 x4 x5 x6 x7 x8
      go_wp2_with fail
      go_at_call 40
      refine (K2 _ (HR.out.below HA1.out.below)).mono ?_
      rintro e v2 ⟨rfl, hb⟩
      have HA2 : Hid (At w _ v2) := HA1.out.trans hb
      clear hb K2 HA1 x0 x1 x2 x3 x4 x5 x6 x7 x8 
      have o0 : Hid (Own 3 (v2.alloc (.cells #[.int .i64 a] 3)) (w.heap.size + 1) (.slice (some ⟨v2.heap.size, 0, none⟩) 1 1) (vi [a])) := Own.lit (e := 3) (w := v2) (B := w.heap.size + 1) #[.int .i64 a] HA2.out.size (by simp)
      have hA2 : Hid (At w ⟨cw, ch, cl, cd, cr, ci, cb, we, ca⟩ (v2.alloc (.cells #[.int .i64 a] 3))) := HA2.out.alloc _
      go_wp2_with fail
      go_loopw [1, 7, 26] (fun x v i wr => ∃ k : Nat, k ≤ n ∧ i = .int .i64 k ∧ x = .int .i64 (CU k) ∧ Own 3 wr (w.heap.size + 1) v (vi (W k)) ∧ At w ⟨cw, ch, cl, cd, cr, ci, cb, we, ca⟩ wr) (fun _ _ i _ => n - (RowKit.intOf i).toNat)
      case atStart => exact ⟨0, Nat.zero_le _, rfl, by rw [HI1.out.2], by rw [HI1.out.1]; exact o0.out, hA2.out⟩
      case round =>
        obtain ⟨k, hk, rfl, rfl, own, hat⟩ := hrel
        have HAT : Hid (At w ⟨cw, ch, cl, cd, cr, ci, cb, we, ca⟩ wr) := hat
        have HOWN : Hid (Own 3 wr (w.heap.size + 1) _ (vi (W k))) := own
        clear own hat o0 hA2 HA2
        by_cases hlt : k < n
        · have hltz : (k : Int) < (n : Int) := by omega
          have hv := vi_at (l := ts) (k := k) (by rw [HN.out]; exact hlt)
          obtain ⟨g, o, rfl, hg, c0⟩ := HR.out k _ hv
          have c1 : wr.cell? ⟨g, o + k, none⟩ = some (.int .i64 (ts.getD k 0)) := (HAT.out.below.cell (p := ⟨g, o + k, none⟩) hg).trans c0
          have st := HI8.out k hlt
          have i9 := fun m X => HI9.out k m X hlt
          have i10 := fun m X => HI10.out k m X hlt
          have i11 := fun X => HI11.out k X hlt
          clear hv c0 hg
          generalize ts.getD k 0 = z at *
          generalize IV k = J at *
          have HJ : Hid (J (CU k) (W k)) := st
          have Hi9 : Hid (∀ m X, J m X → X.length ≤ 900000) := i9
          have Hi10 : Hid (∀ m X, J m X → m ≠ z → J (NXF m z) (X ++ [NXF m z]) ∧ APF (NXF m z) z < APF m z) := i10
          have Hi11 : Hid (∀ X, J z X → X = W (k + 1) ∧ CU (k + 1) = z) := i11
          clear st i9 i10 i11
          generalize CU k = m0 at *
          generalize W k = W0 at *
          go_wp2_with fail
          go_loopw [1, 7] (fun x v wi => ∃ (m : Int) (X : List Int), x = .int .i64 m ∧ Hid (J m X) ∧ Own 3 wi (w.heap.size + 1) v (vi X) ∧ At w ⟨cw, ch, cl, cd, cr, ci, cb, we, ca⟩ wi) (fun x _ _ => APF (RowKit.intOf x) z)
          case atStart => exact ⟨m0, W0, rfl, HJ.out, HOWN.out, HAT.out⟩
          case round =>
            obtain ⟨m, X, rfl, HX, own, hat⟩ := hrel
            have HAT2 : Hid (At w ⟨cw, ch, cl, cd, cr, ci, cb, we, ca⟩ wr) := hat
            have HOWN2 : Hid (Own 3 wr (w.heap.size + 1) _ (vi X)) := own
            clear own hat HOWN HAT HJ c1
            by_cases he : m = z
            · subst he
              obtain ⟨rfl, e2⟩ := Hi11.out X HX.out
              have E2 : Hid (CU (k + 1) = m) := e2
              have he' : (m != m) = false := by simp
              clear e2
              go_wp2
              go_roundw
              case rel => exact ⟨k + 1, by omega, by go_num, by rw [E2.out], HOWN2.out, HAT2.out⟩
              case measure => simp [RowKit.intOf]; omega
            · have he' : (m != z) = true := by simpa using he
              have hx := Hi10.out m X HX.out he
              have hll : (vi X).length ≤ 1000000 := by rw [vi_len]; have := Hi9.out m X HX.out; omega
              have hvs : Hid (vi X ++ [.int .i64 (NXF m z)] = vi (X ++ [NXF m z])) := vi_snoc X _
              have HXX : Hid (J (NXF m z) (X ++ [NXF m z]) ∧ APF (NXF m z) z < APF m z) := hx
              clear hx
              obtain ⟨x0, x1, x2, x3, x4, x5, x6, x7, x8⟩ := HAT2.out.cells
              simp only at x0 x1 x2 x3 x4 x5 x6 x7 x8
              have K3 := SP m z wr (HAT2.out.steps HS.out)
              have K4 := BE m z
              clear SP BE
              generalize SPF m z = p at *
              generalize SBF m z = q at *
              generalize NXF m z = m' at *
              generalize GB m p = gb at *
              go_wp2_with fail
              go_at_call 15
              refine K3.mono ?_
              rintro e va ⟨rfl, hb⟩
              have HAT3 : Hid (At w ⟨cw, ch, cl, cd, cr, ci, cb, we, ca⟩ va) := HAT2.out.trans hb
              have HOWN3 : Hid (Own 3 va (w.heap.size + 1) _ (vi X)) := HOWN2.out.below hb
              clear hb K3 HAT2 HOWN2 x0 x1 x2 x3 x4 x5 x6 x7 x8
              obtain ⟨x0, x1, x2, x3, x4, x5, x6, x7, x8⟩ := HAT3.out.cells
              simp only at x0 x1 x2 x3 x4 x5 x6 x7 x8
              go_wp2_with fail
              go_at_call 35
              refine (K4 _ (HAT3.out.steps HS.out)).mono ?_
              rintro e vb ⟨rfl, hb⟩
              have HAT4 : Hid (At w ⟨cw, ch, cl, cd, cr, ci, cb, we, ca⟩ vb) := HAT3.out.trans hb
              have own : Own 3 vb (w.heap.size + 1) _ (vi X) := HOWN3.out.below hb
              have hsa : w.heap.size + 1 ≤ vb.heap.size := HAT4.out.size
              clear hb K4 HAT3 HOWN3 x0 x1 x2 x3 x4 x5 x6 x7 x8
              go_wp2_with (at_builtin; refine wpList_app_one rfl (.tmp 47) (.tmp 49) 31 3 i0 (.int .i64 0) 8 rfl Tryd.underlying31 ki hz0 hz1 hz2 rfl (by decide) (w.heap.size + 1) vb _ _ (.int .i64 m') rfl own rfl rfl hll hsa ?_; intro v1' wb o1 kb; have ab : Hid (At w ⟨cw, ch, cl, cd, cr, ci, cb, we, ca⟩ wb) := At.of (kb.2.1 _ HAT4.out); clear kb own)
              rw [hvs.out] at o1
              go_roundw
              case rel => exact ⟨m', X ++ [m'], rfl, HXX.out.1, o1, ab.out⟩
              case measure => simpa [RowKit.intOf] using HXX.out.2
        · obtain rfl : k = n := by omega
          have hltz : ¬ (k : Int) < k := by omega
          go_wp2
          go_ret
          exact Row.mk (HOWN.out.mono (by omega)) HAT.out.below

set_option maxHeartbeats 1000000 in
theorem steps_any (c : Cf) (a : Int) (s : Option Addr) (ts : List Int) (cap : Nat) (w : World) (hS : Steps w) (hl : ts.length ≤ 200) (hr : RdA w s (vi ts)) :
    Calls Tryd.prog 23 #[cfv c, .int .i64 a, .slice s ts.length cap] w fun e w' => e = .returned (.int .i64 ((wys c a ts).length - 1)) ∧ Below w.heap.size w w' := by
  have A0 : Hid (At w c (w.alloc (.cells (cfc c) 23))) := At.start w c
  have K1 := way_any c a s ts cap _ (A0.out.steps hS) hl (hr.alloc _)
  have LE := wys_len c a ts
  clear hS hr
  generalize wys c a ts = R at *
  obtain ⟨r, hr⟩ : ∃ r, R.length = r := ⟨_, rfl⟩
  have HRR : Hid (R.length = r) := hr
  rw [hr] at LE ⊢
  have hR : r ≤ 1000000 := by omega
  clear LE hl hr
  generalize ts.length = n at *
  obtain ⟨cw, ch, cl, cd, cr, ci, cb, we, ca⟩ := c
  simp only [cfv, cfc] at *
  go_enter Tryd.func23, Tryd.ntmps23
  go_wp2_with fail
  go_at_call 22
  refine K1.mono ?_
  rintro e v1 ⟨v, rfl, own, hb⟩
  have HA1 : Hid (At w _ v1) := A0.out.trans hb
  obtain ⟨a', cap', rfl, _, _, _⟩ := own.rd
  rw [vi_len, HRR.out]
  clear own hb K1
  go_wp2
  go_ret
  exact ⟨rfl, HA1.out.below⟩
end Go.Proofs.YtcebfkkpclnmoaaDoor
