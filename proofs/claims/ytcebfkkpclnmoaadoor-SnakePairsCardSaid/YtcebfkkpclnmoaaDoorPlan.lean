/-
  The walk of snake's Plan. (Written by gen_plan.py.)
-/
import Derived.Test.YtcebfkkpclnmoaaDoorByl
import Derived.Test.YtcebfkkpclnmoaaDoorRows3
import Derived.Test.YtcebfkkpclnmoaaDoorBeside
namespace Go.Proofs.YtcebfkkpclnmoaaDoor
open Go.RowKit

/-- What Plan tells. -/
def PlT (c : Cf) (f : Int) (zs : List Int) (w : World) (e : Ending) (w' : World) : Prop :=
  ∃ va vb vc, e = .returned (.tuple #[.agg #[va, vb, vc], .int .i64 (if plB c f zs = true then 0 else 6)]) ∧ Own 3 w' w.heap.size va (vi (plG c f zs)) ∧ Own 3 w' w.heap.size vb (vi (plL c f zs)) ∧ Own 3 w' w.heap.size vc (vi (plS c f zs)) ∧ Below w.heap.size w w'
theorem PlT.no {c : Cf} {f : Int} {zs : List Int} {w w' : World} (h : plB c f zs = false) (hb : Below w.heap.size w w') : PlT c f zs w (.returned (.tuple #[.agg #[.slice none 0 0, .slice none 0 0, .slice none 0 0], .int .i64 6])) w' := by
  refine ⟨_, _, _, by rw [h]; rfl, ?_, ?_, ?_, hb⟩
  · unfold plG; rw [h]; exact Own.nil _ _ _
  · unfold plL; rw [h]; exact Own.nil _ _ _
  · unfold plS; rw [h]; exact Own.nil _ _ _
theorem PlT.yes {c : Cf} {f : Int} {zs : List Int} {w w' : World} {B : Nat} {va vb vc : Value} (h : plB c f zs = true) (hb : Below w.heap.size w w') (hB : w.heap.size ≤ B)
    (ha : Own 3 w' B va (vi (gtr c f (srt c zs)))) (hbb : Own 3 w' B vb (vi (les c f (srt c zs)))) (hc : Own 3 w' B vc (vi (sef c f (srt c zs)))) : PlT c f zs w (.returned (.tuple #[.agg #[va, vb, vc], .int .i64 0])) w' := by
  refine ⟨va, vb, vc, by rw [h]; rfl, ?_, ?_, ?_, hb⟩
  · unfold plG; rw [h]; exact ha.mono hB
  · unfold plL; rw [h]; exact hbb.mono hB
  · unfold plS; rw [h]; exact hc.mono hB

/-- The three rows, node by node. -/
theorem plan_inv (c : Cf) (f : Int) (s : List Int) : ∃ G L S : Nat → List Int, (G 0 = [] ∧ L 0 = [] ∧ S 0 = []) ∧ (G s.length = gtr c f s ∧ (L s.length).reverse = les c f s ∧ S s.length = sef c f s) ∧
    (∀ k, k ≤ s.length → (G k).length ≤ s.length ∧ (L k).length ≤ s.length ∧ (S k).length ≤ s.length) ∧
    (∀ k, k < s.length → lb c f < lb c (s.getD k 0) → G (k + 1) = G k ++ [s.getD k 0] ∧ L (k + 1) = L k ∧ S (k + 1) = S k) ∧
    (∀ k, k < s.length → lb c (s.getD k 0) < lb c f → G (k + 1) = G k ∧ L (k + 1) = L k ++ [s.getD k 0] ∧ S (k + 1) = S k) ∧
    (∀ k, k < s.length → lb c (s.getD k 0) = lb c f → G (k + 1) = G k ∧ L (k + 1) = L k ∧ S (k + 1) = S k ++ [s.getD k 0]) := by
  have tk : ∀ k, k < s.length → s.take (k + 1) = s.take k ++ [s.getD k 0] := by
    intro k hk
    rw [getD_at hk, List.take_succ_eq_append_getElem hk]
  refine ⟨fun k => gtr c f (s.take k), fun k => (les c f (s.take k)).reverse, fun k => sef c f (s.take k), ⟨rfl, rfl, rfl⟩, ?_, ?_, ?_, ?_, ?_⟩
  · simp [List.take_length]
  · intro k hk
    have a := gtr_le c f (s.take k)
    have b := les_le c f (s.take k)
    have d := sef_le c f (s.take k)
    rw [List.length_take] at a b d
    dsimp only
    rw [List.length_reverse]
    omega
  · intro k hk h
    dsimp only
    rw [tk k hk, gtr_snoc, les_snoc', sef_snoc, if_pos h, if_neg (by omega), if_neg (by omega)]
    exact ⟨rfl, rfl, rfl⟩
  · intro k hk h
    dsimp only
    rw [tk k hk, gtr_snoc, les_snoc', sef_snoc, if_neg (by omega), if_pos h, if_neg (by omega)]
    exact ⟨rfl, rfl, rfl⟩
  · intro k hk h
    dsimp only
    rw [tk k hk, gtr_snoc, les_snoc', sef_snoc, if_neg (by omega), if_neg (by omega), if_pos h]
    exact ⟨rfl, rfl, rfl⟩

theorem below_three {w v : World} {B b : Nat} (h : Below B w v) (hb : B ≤ b) (x0 x1 x2 : Value) : Below B w (((v.setCell ⟨b, 0, none⟩ x0).setCell ⟨b, 1, none⟩ x1).setCell ⟨b, 2, none⟩ x2) :=
  ((h.setCell hb _).setCell hb _).setCell hb _
theorem own_three {v : World} {B b : Nat} {x : Value} {l : List Int} (h : Own 3 v B x (vi l)) (hb : b < B) (x0 x1 x2 : Value) : Own 3 (((v.setCell ⟨b, 0, none⟩ x0).setCell ⟨b, 1, none⟩ x1).setCell ⟨b, 2, none⟩ x2) B x (vi l) := by
  refine own_keep h (fun g hg _ => ?_)
  have := (own_lt h hg).1
  have f : ∀ (u : World) j x, (u.setCell ⟨b, j, none⟩ x).heap[g]? = u.heap[g]? := fun u j x => Below.heap_setCell u ⟨b, j, none⟩ x g (by show g ≠ b; omega)
  rw [f, f, f]
theorem Wk.free3 {w v : World} {c : Cf} {A : Array Value} {t : TypeId} (h : Wk w c A t v) (j : Nat) : v.frozen? ⟨w.heap.size + 1, j, none⟩ = false := by
  have := h.2.1
  simp [World.frozen?, this]

set_option maxRecDepth 100000 in
set_option maxHeartbeats 2000000 in
theorem plan_any (c : Cf) (f : Int) (s : Option Addr) (zs : List Int) (cap : Nat) (w : World) (hl : zs.length ≤ 1000) (hr : RdA w s (vi zs)) :
    Calls Tryd.prog 18 #[cfv c, .int .i64 f, .slice s zs.length cap] w (PlT c f zs w) := by
  obtain ⟨i0, ki, hz0, hz1, hz2⟩ := info_parts Tryd.info3
  have T0 : Hid (Wk w c #[.slice none 0 0, .slice none 0 0, .slice none 0 0] 33 ((w.alloc (.cells (cfc c) 23)).alloc (.cells #[.slice none 0 0, .slice none 0 0, .slice none 0 0] 33))) := Wk.start _ _ _ _
  have K1 := label_any c f
  have K2 := fun v h => byLabel_any c s zs cap v hl h
  have HR : Hid (RdA w s (vi zs)) := hr
  have LA := fun n => label_any c n
  have SL := srt_len c zs
  clear hr
  cases hf : isN c f with
  | false =>
    have e : plB c f zs = false := by unfold plB; rw [hf]; rfl
    have HE : Hid (plB c f zs = false) := e
    rw [(pl_no hf).2.2] at K1
    clear e hf LA SL hl
    obtain ⟨n, hn⟩ : ∃ n, zs.length = n := ⟨_, rfl⟩
    rw [hn] at K2 ⊢
    clear hn
    obtain ⟨cw, ch, cl, cd, cr, ci, cb, we, ca⟩ := c
    simp only [cfv, cfc] at *
    go_enter Tryd.func18, Tryd.ntmps18
    go_wp2_with fail
    go_at_call 11
    refine (K1 _).mono ?_
    rintro e v1 ⟨rfl, hb⟩
    have T1 : Hid (Wk w _ _ _ v1) := T0.out.next hb
    clear hb K1 T0
    obtain ⟨x0, x1, x2, x3, x4, x5, x6, x7, x8⟩ := T1.out.cells
    simp only at x0 x1 x2 x3 x4 x5 x6 x7 x8
    go_wp2_with fail
    go_at_call 37
    refine (K2 _ (HR.out.below T1.out.below)).mono ?_
    rintro e v2 ⟨v, rfl, hb, -⟩
    have T2 : Hid (Wk w _ _ _ v2) := T1.out.next hb
    clear hb K2 T1 x0 x1 x2 x3 x4 x5 x6 x7 x8
    generalize stB' _ zs = t at *
    have y0 := T2.out.arr 0
    have y1 := T2.out.arr 1
    have y2 := T2.out.arr 2
    have f0 := T2.out.free3 0
    have f1 := T2.out.free3 1
    have f2 := T2.out.free3 2
    simp at y0 y1 y2
    go_wp2
    exact bodyPost_ret (v := .tuple #[.agg #[.slice none 0 0, .slice none 0 0, .slice none 0 0], .int .i64 6]) (by simp [results, Tryd.results18, go_sem, y0, y1, y2]) rfl (PlT.no HE.out (below_three T2.out.below (by omega) _ _ _))
  | true =>
    rw [pl_yes hf] at K1
    cases hs : stB' c zs with
    | false =>
      have e : plB c f zs = false := by unfold plB; rw [hs]; simp
      have HE : Hid (plB c f zs = false) := e
      have HS : Hid (stB' c zs = false) := hs
      clear e hf hs LA SL hl
      obtain ⟨n, hn⟩ : ∃ n, zs.length = n := ⟨_, rfl⟩
      rw [hn] at K2 ⊢
      clear hn
      obtain ⟨cw, ch, cl, cd, cr, ci, cb, we, ca⟩ := c
      simp only [cfv, cfc] at *
      go_enter Tryd.func18, Tryd.ntmps18
      go_wp2_with fail
      go_at_call 11
      refine (K1 _).mono ?_
      rintro e v1 ⟨rfl, hb⟩
      have T1 : Hid (Wk w _ _ _ v1) := T0.out.next hb
      clear hb K1 T0
      obtain ⟨x0, x1, x2, x3, x4, x5, x6, x7, x8⟩ := T1.out.cells
      simp only at x0 x1 x2 x3 x4 x5 x6 x7 x8
      go_wp2_with fail
      go_at_call 37
      refine (K2 _ (HR.out.below T1.out.below)).mono ?_
      rintro e v2 ⟨v, rfl, hb, -⟩
      have T2 : Hid (Wk w _ _ _ v2) := T1.out.next hb
      rw [HS.out]
      clear hb K2 T1 x0 x1 x2 x3 x4 x5 x6 x7 x8
      have y0 := T2.out.arr 0
      have y1 := T2.out.arr 1
      have y2 := T2.out.arr 2
      have f0 := T2.out.free3 0
      have f1 := T2.out.free3 1
      have f2 := T2.out.free3 2
      simp at y0 y1 y2
      go_wp2
      exact bodyPost_ret (v := .tuple #[.agg #[.slice none 0 0, .slice none 0 0, .slice none 0 0], .int .i64 6]) (by simp [results, Tryd.results18, go_sem, y0, y1, y2]) rfl (PlT.no HE.out (below_three T2.out.below (by omega) _ _ _))
    | true =>
      have e : plB c f zs = true := by unfold plB; rw [hf, hs]; rfl
      have HS : Hid (stB' c zs = true) := hs
      have HF : Hid (∀ (B : Nat) (w' : World) (va vb vc : Value), Below w.heap.size w w' → w.heap.size ≤ B → Own 3 w' B va (vi (gtr c f (srt c zs))) → Own 3 w' B vb (vi (les c f (srt c zs))) → Own 3 w' B vc (vi (sef c f (srt c zs))) → PlT c f zs w (.returned (.tuple #[.agg #[va, vb, vc], .int .i64 0])) w') := fun B w' va vb vc h1 h2 h3 h4 h5 => PlT.yes e h1 h2 h3 h4 h5
      have hN := srt_is (stB'_iff.1 hs).2.1
      have PE : ∀ k, k < (srt c zs).length → ple c ((srt c zs).getD k 0) = 0 := fun k hk => pl_yes (hN _ (getD_mem hk))
      obtain ⟨G, L, S, I0, I1, I2, I3, I4, I5⟩ := plan_inv c f (srt c zs)
      have BL := fun n => lb_in c n
      clear e hf hs hN
      have RV := fun v B l w h1 h2 h3 => reverse_any v B l w h1 h2 h3
      unfold ByL at K2
      generalize srt c zs = ss at *
      generalize lb c = LB at *
      generalize ple c = PP at *
      obtain ⟨n, hn⟩ : ∃ n, zs.length = n := ⟨_, rfl⟩
      rw [hn] at K2 SL hl ⊢
      clear hn
      have HSL : Hid (ss.length = n) := SL
      rw [SL] at PE I1 I2 I3 I4 I5
      have HI0 : Hid (G 0 = [] ∧ L 0 = [] ∧ S 0 = []) := I0
      have HI1 : Hid (G n = gtr c f ss ∧ (L n).reverse = les c f ss ∧ S n = sef c f ss) := I1
      have HI2 : Hid (∀ k, k ≤ n → (G k).length ≤ n ∧ (L k).length ≤ n ∧ (S k).length ≤ n) := I2
      have HI3 : Hid (∀ k, k < n → LB f < LB (ss.getD k 0) → G (k + 1) = G k ++ [ss.getD k 0] ∧ L (k + 1) = L k ∧ S (k + 1) = S k) := I3
      have HI4 : Hid (∀ k, k < n → LB (ss.getD k 0) < LB f → G (k + 1) = G k ∧ L (k + 1) = L k ++ [ss.getD k 0] ∧ S (k + 1) = S k) := I4
      have HI5 : Hid (∀ k, k < n → LB (ss.getD k 0) = LB f → G (k + 1) = G k ∧ L (k + 1) = L k ∧ S (k + 1) = S k ++ [ss.getD k 0]) := I5
      have HPE : Hid (∀ k, k < n → PP (ss.getD k 0) = 0) := PE
      have HBL : Hid (∀ n, 0 ≤ LB n ∧ LB n < 4096) := BL
      clear SL PE I0 I1 I2 I3 I4 I5 BL
      obtain ⟨cw, ch, cl, cd, cr, ci, cb, we, ca⟩ := c
      simp only [cfv, cfc] at *
      go_enter Tryd.func18, Tryd.ntmps18
      go_wp2_with fail
      go_at_call 11
      refine (K1 _).mono ?_
      rintro e v1 ⟨rfl, hb⟩
      have T1 : Hid (Wk w _ _ _ v1) := T0.out.next hb
      clear hb K1 T0
      obtain ⟨x0, x1, x2, x3, x4, x5, x6, x7, x8⟩ := T1.out.cells
      simp only at x0 x1 x2 x3 x4 x5 x6 x7 x8
      go_wp2_with fail
      go_at_call 37
      refine (K2 _ (HR.out.below T1.out.below)).mono ?_
      rintro e u ⟨v, rfl, hb, own⟩
      have T2 : Hid (Wk w _ _ _ u) := T1.out.next hb
      have own := own HS.out
      rw [HS.out]
      obtain ⟨ar, capr, rfl, -, -, rd⟩ := own.rd
      rw [vi_len, HSL.out]
      have HRD : Hid (RdA u ar (vi ss)) := RdA.of rd
      have R0 : Hid (R3 u.heap.size u (.slice none 0 0) (.slice none 0 0) (.slice none 0 0) (G 0) (L 0) (S 0)) := by rw [HI0.out.1, HI0.out.2.1, HI0.out.2.2]; exact R3.nil _ _
      have UB : Hid (∀ v', Below u.heap.size u v' → Wk w ⟨cw, ch, cl, cd, cr, ci, cb, we, ca⟩ #[.slice none 0 0, .slice none 0 0, .slice none 0 0] 33 v') := fun v' h => T2.out.next h
      have HUS : Hid (w.heap.size + 1 < u.heap.size) := T2.out.lt
      have hn2 : n ≤ 1000 := hl
      clear hb K2 T1 x0 x1 x2 x3 x4 x5 x6 x7 x8 own rd hl
      generalize LB f = lf at *
      go_wp2_with fail
      go_loopw [12, 13, 14, 40] (fun xa xb xc i wr => ∃ (k : Nat) (va vb vc : Value), va = xa ∧ vb = xb ∧ vc = xc ∧ k ≤ n ∧ i = .int .i64 k ∧ R3 u.heap.size wr va vb vc (G k) (L k) (S k) ∧ Below u.heap.size u wr) (fun _ _ _ i _ => n - (RowKit.intOf i).toNat)
      case atStart => exact ⟨0, _, _, _, rfl, rfl, rfl, Nat.zero_le _, rfl, R0.out, Below.refl _ _⟩
      case round =>
        obtain ⟨k, va, vb, vc, rfl, rfl, rfl, hk, rfl, r3, hbu⟩ := hrel
        have HR3 : Hid (R3 u.heap.size wr _ _ _ (G k) (L k) (S k)) := r3
        have HBU : Hid (Below u.heap.size u wr) := hbu
        clear r3 hbu
        by_cases hlt : k < n
        · have hltz : (k : Int) < (n : Int) := by omega
          have hv := vi_at (l := ss) (k := k) (by rw [HSL.out]; exact hlt)
          obtain ⟨g, o, rfl, hg, c0⟩ := HRD.out k _ hv
          have c1 : wr.cell? ⟨g, o + k, none⟩ = some (.int .i64 (ss.getD k 0)) := (HBU.out.cell (p := ⟨g, o + k, none⟩) hg).trans c0
          have K3 := LA (ss.getD k 0)
          rw [HPE.out k hlt] at K3
          have j3 := HI3.out k hlt
          have j4 := HI4.out k hlt
          have j5 := HI5.out k hlt
          have jl := HI2.out k (by omega)
          have bl := HBL.out (ss.getD k 0)
          clear hv c0 hg
          generalize ss.getD k 0 = x at *
          generalize LB x = lx at *
          obtain ⟨x0, x1, x2, x3, x4, x5, x6, x7, x8⟩ := (UB.out wr HBU.out).cells
          simp only at x0 x1 x2 x3 x4 x5 x6 x7 x8
          go_wp2_with fail
          go_at_call 11
          refine (K3 _).mono ?_
          rintro e wa ⟨rfl, hb⟩
          have HBA : Hid (Below u.heap.size u wa) := nxt HBU.out hb
          have HRA : Hid (R3 u.heap.size wa _ _ _ (G k) (L k) (S k)) := HR3.out.below hb
          have hsa : u.heap.size ≤ wa.heap.size := HBA.out.size
          clear hb K3 x0 x1 x2 x3 x4 x5 x6 x7 x8 c1 HR3 HBU
          have hlg : (G k).length ≤ 1000000 := by omega
          have hll : (L k).length ≤ 1000000 := by omega
          have hls : (S k).length ≤ 1000000 := by omega
          by_cases h1 : lf < lx
          · obtain ⟨e1, e2, e3⟩ := j3 h1
            have HQ : Hid (G (k + 1) = G k ++ [x] ∧ L (k + 1) = L k ∧ S (k + 1) = S k) := ⟨e1, e2, e3⟩
            clear e1 e2 e3 j3 j4 j5
            go_wp2_with (at_builtin; refine wpList_app3 rfl (.tmp 58) (.tmp 60) 31 i0 rfl Tryd.underlying31 ki hz0 hz1 hz2 u.heap.size wa _ _ _ (G k) _ _ x rfl HRA.out rfl hlg hsa ?_; intro v1' wb r1 kb; have rb : Hid (Below u.heap.size u wb) := HBA.out.trans kb; have rr : Hid (R3 u.heap.size wb v1' _ _ (G k ++ [x]) (L k) (S k)) := r1; clear kb r1)
            go_roundw
            case rel => exact ⟨k + 1, _, _, _, rfl, rfl, rfl, by omega, by go_num, by rw [HQ.out.1, HQ.out.2.1, HQ.out.2.2]; exact rr.out, rb.out⟩
            case measure => simp [RowKit.intOf]; omega
          · by_cases h2 : lx < lf
            · obtain ⟨e1, e2, e3⟩ := j4 h2
              have HQ : Hid (G (k + 1) = G k ∧ L (k + 1) = L k ++ [x] ∧ S (k + 1) = S k) := ⟨e1, e2, e3⟩
              have HRA2 := HRA.out.rot
              clear e1 e2 e3 j3 j4 j5
              go_wp2_with (at_builtin; refine wpList_app3 rfl (.tmp 66) (.tmp 68) 31 i0 rfl Tryd.underlying31 ki hz0 hz1 hz2 u.heap.size wa _ _ _ (L k) _ _ x rfl HRA2 rfl hll hsa ?_; intro v1' wb r1 kb; have rb : Hid (Below u.heap.size u wb) := HBA.out.trans kb; have rr : Hid (R3 u.heap.size wb _ v1' _ (G k) (L k ++ [x]) (S k)) := r1.rot.rot; clear kb r1 HRA2)
              go_roundw
              case rel => exact ⟨k + 1, _, _, _, rfl, rfl, rfl, by omega, by go_num, by rw [HQ.out.1, HQ.out.2.1, HQ.out.2.2]; exact rr.out, rb.out⟩
              case measure => simp [RowKit.intOf]; omega
            · obtain ⟨e1, e2, e3⟩ := j5 (by omega)
              have HQ : Hid (G (k + 1) = G k ∧ L (k + 1) = L k ∧ S (k + 1) = S k ++ [x]) := ⟨e1, e2, e3⟩
              have HRA2 := HRA.out.rot.rot
              clear e1 e2 e3 j3 j4 j5
              go_wp2_with (at_builtin; refine wpList_app3 rfl (.tmp 50) (.tmp 52) 31 i0 rfl Tryd.underlying31 ki hz0 hz1 hz2 u.heap.size wa _ _ _ (S k) _ _ x rfl HRA2 rfl hls hsa ?_; intro v1' wb r1 kb; have rb : Hid (Below u.heap.size u wb) := HBA.out.trans kb; have rr : Hid (R3 u.heap.size wb _ _ v1' (G k) (L k) (S k ++ [x])) := r1.rot; clear kb r1 HRA2)
              go_roundw
              case rel => exact ⟨k + 1, _, _, _, rfl, rfl, rfl, by omega, by go_num, by rw [HQ.out.1, HQ.out.2.1, HQ.out.2.2]; exact rr.out, rb.out⟩
              case measure => simp [RowKit.intOf]; omega
        · obtain rfl : k = n := by omega
          have hltz : ¬ (k : Int) < k := by omega
          have jl := HI2.out k (by omega)
          obtain ⟨ra, za, rfl, -, -, -⟩ := HR3.out.oa.rd
          obtain ⟨rb, zb, rfl, -, -, -⟩ := HR3.out.ob.rd
          obtain ⟨rc, zc, rfl, -, -, -⟩ := HR3.out.oc.rd
          generalize (vi (G k)).length = na at *
          generalize (vi (L k)).length = nb at *
          generalize (vi (S k)).length = nc at *
          have KR := RV _ _ _ wr (by omega) HBU.out.size HR3.out.ob
          clear LA RV
          go_wp2_with fail
          go_at_call 38
          refine KR.mono ?_
          rintro e wz ⟨rfl, ob, hb, hs, hk'⟩
          have R4 : Hid (R3 u.heap.size wz _ _ _ (L k).reverse (S k) (G k)) := HR3.out.rot.turn ob (fun g hg _ => hk' g hg) (fun q hq => Or.inl hq)
          have HBZ : Hid (Below u.heap.size u wz) := HBU.out.trans hb
          have TZ : Hid (Wk w ⟨cw, ch, cl, cd, cr, ci, cb, we, ca⟩ _ _ wz) := UB.out wz HBZ.out
          clear ob hb hs hk' KR HR3 HBU
          have y0 := TZ.out.arr 0
          have y1 := TZ.out.arr 1
          have y2 := TZ.out.arr 2
          have f0 := TZ.out.free3 0
          have f1 := TZ.out.free3 1
          have f2 := TZ.out.free3 2
          simp at y0 y1 y2
          have EQ : Hid (G k = gtr _ f ss ∧ (L k).reverse = les _ f ss ∧ S k = sef _ f ss) := HI1.out
          go_wp2
          exact bodyPost_ret (v := .tuple #[.agg #[.slice ra na za, .slice rb nb zb, .slice rc nc zc], .int .i64 0]) (by simp [results, Tryd.results18, go_sem, y0, y1, y2]) rfl (HF.out u.heap.size _ _ _ _ (below_three TZ.out.below (by omega) _ _ _) (by have := HUS.out; omega)
            (by rw [← EQ.out.1]; exact own_three R4.out.oc HUS.out _ _ _) (by rw [← EQ.out.2.1]; exact own_three R4.out.oa HUS.out _ _ _) (by rw [← EQ.out.2.2]; exact own_three R4.out.ob HUS.out _ _ _))
end Go.Proofs.YtcebfkkpclnmoaaDoor
