/-
  The walk of the document's Plan. (Written by gen_rplanf.py.)
-/
import Derived.Test.YtcebfkkpclnmoaaDoorRplanM
import Derived.Deep.RegionLaw
namespace Go.Proofs.YtcebfkkpclnmoaaDoor
open Go.RowKit

/-- At a step of a region that draws: an append to the first row of three. -/
theorem step_app3 {P : Program} {ops : Array Oper} {o : Oper} {a : Act} {K : Act → World → Prop} {Q : Exit → Act → World → Prop} {E : Prop} (hgd : o.guard = none) (s x : Operand) (t : TypeId) (i : TypeInfo)
    (ho : o.op = .call { callee := .builtin .append, args := #[s, x], argTypes := #[t, t] })
    (ht : P.underlying t = some (.slice 3)) (hi : P.info? 3 = some i) (hz : i.zero = some (.int .i64 0)) (h1 : i.size = 1) (hby : i.bytes = 8)
    (B : Nat) (w : World) (v b c : Value) (l lb lc : List Int) (n : Int) (g : Nat) (hs : a.eval s = v) (hR : R3 B w v b c l lb lc) (hx : a.eval x = .slice (some ⟨g, 0, none⟩) 1 1) (hn : RdA w (some ⟨g, 0, none⟩) (vi [n])) (hlen : l.length ≤ 100000) (hbase : B ≤ w.heap.size)
    (h : ∀ v' w', R3 B w' v' b c (l ++ [n]) lb lc → Below B w w' → K (a.put o.dst v') w') :
    if Region.wanted o (yielded ops a.tmps) = true then Oper.wp P o a w K Q else E := by
  have hw : Region.wanted o (yielded ops a.tmps) = true := by simp [Region.wanted, hgd]
  rw [if_pos hw]
  refine wp_app_rows s x t 3 i (.int .i64 0) 8 ho ht hi hz h1 hby rfl (by decide) B _ v (vi l) hs hR.oa _ 1 1 hx (vi [n]) rfl hn (fun e => by cases e) (fun x hx => by cases hx; rfl) (vi_one _) (by rw [vi_len]; omega) hbase ?_
  intro v' w' ho hg hp
  refine h v' w' (hR.turn (by rw [← vi_snoc]; exact ho) (fun q hq hl => hg.block q hl (fun e => hq e.symm)) ?_) (Below.grown (Below.refl _ _) hg hbase (fun q hq => (own_lt hR.oa hq).1))
  intro k hk
  rcases hp with hp | hp
  · exact Or.inl (by rw [← hp]; exact hk)
  · rw [hp] at hk
    simp only [Option.some.injEq] at hk
    exact Or.inr (by omega)
/-- .. and one ahead of the first row. -/
theorem step_pre3 {P : Program} {ops : Array Oper} {o : Oper} {a : Act} {K : Act → World → Prop} {Q : Exit → Act → World → Prop} {E : Prop} (hgd : o.guard = none) (s x : Operand) (t : TypeId) (i : TypeInfo)
    (ho : o.op = .call { callee := .builtin .append, args := #[s, x], argTypes := #[t, t] })
    (ht : P.underlying t = some (.slice 3)) (hi : P.info? 3 = some i) (hz : i.zero = some (.int .i64 0)) (h1 : i.size = 1) (hby : i.bytes = 8)
    (B : Nat) (w : World) (v b c : Value) (l lb lc : List Int) (n : Int) (g : Nat) (hs : a.eval s = .slice (some ⟨g, 0, none⟩) 1 1) (hR : R3 B w v b c l lb lc) (hx : a.eval x = v) (hn : Own 3 w B (.slice (some ⟨g, 0, none⟩) 1 1) (vi [n])) (hgb : b.ownBlock ≠ some g) (hgc : c.ownBlock ≠ some g) (hlen : l.length ≤ 100000) (hbase : B ≤ w.heap.size)
    (h : ∀ v' w', R3 B w' v' b c (n :: l) lb lc → Below B w w' → K (a.put o.dst v') w') :
    if Region.wanted o (yielded ops a.tmps) = true then Oper.wp P o a w K Q else E := by
  have hw : Region.wanted o (yielded ops a.tmps) = true := by simp [Region.wanted, hgd]
  rw [if_pos hw]
  obtain ⟨ad, cp, rfl, r1, r2, r3⟩ := hR.oa.src
  refine wp_app_rows s x t 3 i (.int .i64 0) 8 ho ht hi hz h1 hby rfl (by decide) B _ _ (vi [n]) hs hn ad l.length cp hx (vi l) (vi_len l) r1 r2 r3 (vi_one _) (by rw [vi_len]; simp; omega) hbase ?_
  intro v' w' ho hg hp
  have hk : ∀ q, q ≠ g → q < w.heap.size → w'.heap[q]? = w.heap[q]? := fun q hq hl => hg.block q hl (fun e => hq (by simpa [Value.ownBlock] using e))
  have hp2 : ∀ k, v'.ownBlock = some k → k = g ∨ w.heap.size ≤ k := by
    intro k hk
    rcases hp with hp | hp
    · rw [hp] at hk
      exact Or.inl (by simpa [Value.ownBlock] using hk.symm)
    · rw [hp] at hk
      simp only [Option.some.injEq] at hk
      exact Or.inr (by omega)
  refine h v' w' ⟨ho, own_keep hR.ob (fun q hq hl => hk q (fun e => hgb (e ▸ hq)) hl), own_keep hR.oc (fun q hq hl => hk q (fun e => hgc (e ▸ hq)) hl), ?_, ?_, hR.bc⟩ (Below.grown (Below.refl _ _) hg hbase (fun q hq => (own_lt hn hq).1))
  · intro k h1 h2
    rcases hp2 k h1 with rfl | h3
    · exact hgb h2
    · have := (own_lt hR.ob h2).2; omega
  · intro k h1 h2
    rcases hp2 k h1 with rfl | h3
    · exact hgc h2
    · have := (own_lt hR.oc h2).2; omega

set_option maxRecDepth 100000 in
set_option maxHeartbeats 4000000 in
theorem rplan_any (c : Cf) (f : Int) (s : Option Addr) (zs : List Int) (cap : Nat) (w : World) (hl : zs.length ≤ 1000) (hr : RdA w s (vi zs)) :
    Calls Tryd.prog 19 #[cfv c, .int .i64 f, .slice s zs.length cap] w (PlT c f zs w) := by
  obtain ⟨i0, ki, hz0, hz1, hz2⟩ := info_parts Tryd.info3
  have T0 : Hid (Ow w c nil3 (((w.alloc (.cells (cfc c) 23)).alloc (.cells nil3 33)).alloc (.cells nil3 33))) := Ow.start _ _
  have HR : Hid (RdA w s (vi zs)) := hr
  have K1 := ris_any c f
  clear hr
  by_cases h0 : zs = []
  · subst h0
    have HE : Hid (plB c f [] = false) := by unfold Hid plB stB'; simp
    clear K1 hl
    obtain ⟨cw, ch, cl, cd, cr, ci, cb, we, ca⟩ := c
    simp only [cfv, cfc] at *
    rw [List.length_nil]
    go_enter Tryd.func19, Tryd.ntmps19
    have y0 := T0.out.wk.arr 0
    have y1 := T0.out.wk.arr 1
    have y2 := T0.out.wk.arr 2
    have f0 := T0.out.wk.free3 0
    have f1 := T0.out.wk.free3 1
    have f2 := T0.out.wk.free3 2
    have q0 := T0.out.arr 0
    have q1 := T0.out.arr 1
    have q2 := T0.out.arr 2
    simp at y0 y1 y2 q0 q1 q2
    go_wp2
    exact bodyPost_ret (v := .tuple #[.agg #[.slice none 0 0, .slice none 0 0, .slice none 0 0], .int .i64 6]) (by simp [results, Tryd.results19, go_sem, y0, y1, y2]) rfl (PlT.no HE.out T0.out.below)
  · have hn0 : ((zs.length : Int) == 0) = false := by
      have : zs.length ≠ 0 := fun e => h0 (List.eq_nil_of_length_eq_zero e)
      simp; omega
    cases hf : isN c f with
    | false =>
      rw [hf] at K1
      have HE : Hid (plB c f zs = false) := by unfold Hid plB; rw [hf]; rfl
      clear hf hl
      generalize zs.length = n at *
      obtain ⟨cw, ch, cl, cd, cr, ci, cb, we, ca⟩ := c
      simp only [cfv, cfc] at *
      go_enter Tryd.func19, Tryd.ntmps19
      obtain ⟨x0, x1, x2, x3, x4, x5, x6, x7, x8⟩ := T0.out.cells
      simp only at x0 x1 x2 x3 x4 x5 x6 x7 x8
      go_wp2_with fail
      go_at_call 30
      refine (K1 _).mono ?_
      rintro e v1 ⟨rfl, hb⟩
      have T1 : Hid (Ow w ⟨cw, ch, cl, cd, cr, ci, cb, we, ca⟩ nil3 v1) := T0.out.trans hb
      clear hb K1 T0 x0 x1 x2 x3 x4 x5 x6 x7 x8 
      have y0 := T1.out.wk.arr 0
      have y1 := T1.out.wk.arr 1
      have y2 := T1.out.wk.arr 2
      have f0 := T1.out.wk.free3 0
      have f1 := T1.out.wk.free3 1
      have f2 := T1.out.wk.free3 2
      have q0 := T1.out.arr 0
      have q1 := T1.out.arr 1
      have q2 := T1.out.arr 2
      simp at y0 y1 y2 q0 q1 q2
      go_wp2
      exact bodyPost_ret (v := .tuple #[.agg #[.slice none 0 0, .slice none 0 0, .slice none 0 0], .int .i64 6]) (by simp [results, Tryd.results19, go_sem, y0, y1, y2]) rfl (PlT.no HE.out (below_three T1.out.below (by omega) _ _ _))
    | true =>
      rw [hf] at K1
      obtain ⟨GD, V0, V1, V2, V3, V4⟩ := rpl_inv (f := f) zs hf h0
      have ZIN : ∀ k, k < zs.length → isN c (zs.getD k 0) = true → -9223372036854775808 ≤ zs.getD k 0 := fun k _ h => by have := isN_lt h; omega
      have IS := fun m => ris_any c m
      have OF := fun m => of_any c m
      have NO := fun v => rnodes_any c v
      have NI := nod_in c
      have LI := fun m => lb_in c m
      have HPY : Hid (∀ (B : Nat) (w' : World) (va vb vc : Value), plB c f zs = true → Below w.heap.size w w' → w.heap.size ≤ B → Own 3 w' B va (vi (gtr c f (srt c zs))) → Own 3 w' B vb (vi (les c f (srt c zs))) → Own 3 w' B vc (vi (sef c f (srt c zs))) → PlT c f zs w (.returned (.tuple #[.agg #[va, vb, vc], .int .i64 0])) w') := fun B w' va vb vc h h1 h2 h3 h4 h5 => PlT.yes h h1 h2 h3 h4 h5
      have HPN : Hid (∀ w', plB c f zs = false → Below w.heap.size w w' → PlT c f zs w (.returned (.tuple #[.agg #[.slice none 0 0, .slice none 0 0, .slice none 0 0], .int .i64 6])) w') := fun w' h hb => PlT.no h hb
      have HRW : Hid (plB c f zs = true → ∃ G L S : Nat → Nat → List Int,
          (G 0 0 = [] ∧ L 0 0 = [] ∧ S 0 0 = []) ∧
          (G (nod c).toNat 0 = gtr c f (srt c zs) ∧ L (nod c).toNat 0 = les c f (srt c zs) ∧ S (nod c).toNat 0 = sef c f (srt c zs)) ∧
          (∀ l i, i ≤ zs.length → (G l i).length ≤ 2000 ∧ (L l i).length ≤ 2000 ∧ (S l i).length ≤ 2000) ∧
          (∀ l, G l zs.length = G (l + 1) 0 ∧ L l zs.length = L (l + 1) 0 ∧ S l zs.length = S (l + 1) 0) ∧
          (∀ (l i : Nat), i < zs.length → lb c (zs.getD i 0) ≠ (l : Int) → G l (i + 1) = G l i ∧ L l (i + 1) = L l i ∧ S l (i + 1) = S l i) ∧
          (∀ (l i : Nat), i < zs.length → lb c (zs.getD i 0) = (l : Int) → lb c f < (l : Int) → G l (i + 1) = G l i ++ [zs.getD i 0] ∧ L l (i + 1) = L l i ∧ S l (i + 1) = S l i) ∧
          (∀ (l i : Nat), i < zs.length → lb c (zs.getD i 0) = (l : Int) → (l : Int) < lb c f → G l (i + 1) = G l i ∧ L l (i + 1) = zs.getD i 0 :: L l i ∧ S l (i + 1) = S l i) ∧
          (∀ (l i : Nat), i < zs.length → lb c (zs.getD i 0) = (l : Int) → (l : Int) = lb c f → G l (i + 1) = G l i ∧ L l (i + 1) = L l i ∧ S l (i + 1) = S l i ++ [zs.getD i 0])) := fun h => by
        unfold plB at h
        simp only [Bool.and_eq_true] at h
        exact rpl_rows f zs (stB'_iff.1 h.2).2.1 hl
      have HV0 : Hid (GD 0) := V0
      generalize plB c f zs = PB at *
      generalize gtr c f (srt c zs) = GG at *
      generalize les c f (srt c zs) = LL at *
      generalize sef c f (srt c zs) = SS at *
      generalize isN c = NN at *
      generalize lb c = LB at *
      generalize nod c = ND at *
      obtain ⟨n, hn⟩ : ∃ n, zs.length = n := ⟨_, rfl⟩
      have HN : Hid (zs.length = n) := hn
      rw [hn] at V1 V2 V3 V4 HRW hl hn0 ⊢
      have HV1 : Hid (∀ k, k < n → NN (zs.getD k 0) = false → PB = false) := V1
      have HV2 : Hid (∀ k j, k < n → j < k → zs.getD j 0 = zs.getD k 0 → PB = false) := V2
      have HV3 : Hid (∀ k, k < n → GD k → NN (zs.getD k 0) = true → (∀ j, j < k → zs.getD j 0 ≠ zs.getD k 0) → GD (k + 1)) := V3
      have HV4 : Hid (GD n → PB = true) := V4
      clear V0 V1 V2 V3 V4 hn h0 hf ZIN
      obtain ⟨cw, ch, cl, cd, cr, ci, cb, we, ca⟩ := c
      simp only [cfv, cfc] at *
      go_enter Tryd.func19, Tryd.ntmps19
      obtain ⟨x0, x1, x2, x3, x4, x5, x6, x7, x8⟩ := T0.out.cells
      simp only at x0 x1 x2 x3 x4 x5 x6 x7 x8
      go_wp2_with fail
      go_at_call 30
      refine (K1 _).mono ?_
      rintro e v1 ⟨rfl, hb⟩
      have T1 : Hid (Ow w ⟨cw, ch, cl, cd, cr, ci, cb, we, ca⟩ nil3 v1) := T0.out.trans hb
      clear hb K1 T0 x0 x1 x2 x3 x4 x5 x6 x7 x8 
      clear hn0
      go_wp2_with fail
      go_loopw [9, 10] (fun i _ wr => ∃ k : Nat, k ≤ n ∧ i = .int .i64 k ∧ Hid (GD k) ∧ Ow w ⟨cw, ch, cl, cd, cr, ci, cb, we, ca⟩ nil3 wr) (fun i _ _ => n - (RowKit.intOf i).toNat)
      case atStart => exact ⟨0, Nat.zero_le _, rfl, HV0.out, T1.out⟩
      case round =>
        obtain ⟨k, hk, rfl, HG, hat⟩ := hrel
        have T2 : Hid (Ow w ⟨cw, ch, cl, cd, cr, ci, cb, we, ca⟩ nil3 wr) := hat
        clear hat T1 HV0
        by_cases hlt : k < n
        · have hltz : (k : Int) < (n : Int) := by omega
          have hk0 : (0 : Int) ≤ k := by omega
          have hv := vi_at (l := zs) (k := k) (by rw [HN.out]; exact hlt)
          obtain ⟨g, o, rfl, hg, c0⟩ := HR.out k _ hv
          have j1 := HV1.out k hlt
          have j2 := fun j => HV2.out k j hlt
          have j3 := HV3.out k hlt HG.out
          have K2 := IS (zs.getD k 0)
          clear hv OF NO
          obtain ⟨z, hz⟩ : ∃ z, zs.getD k 0 = z := ⟨_, rfl⟩
          rw [hz] at K2 c0 j1 j2 j3
          clear hz
          have D1 := T2.out.drew
          have SD := D1.cells10 hg c0
          cases hzn : NN z with
          | false =>
            rw [hzn] at K2
            have HE : Hid (PB = false) := j1 hzn
            clear j1 j2 j3 hzn
            go_wp2_with fail
            go_region_held3 (fun v => v.cell? ⟨w.heap.size, 0, none⟩ = some (.int .i64 cw) ∧ v.cell? ⟨w.heap.size, 1, none⟩ = some (.int .i64 ch) ∧ v.cell? ⟨w.heap.size, 2, none⟩ = some (.int .i64 cl) ∧ v.cell? ⟨w.heap.size, 3, none⟩ = some (.int .i64 cd) ∧ v.cell? ⟨w.heap.size, 4, none⟩ = some (.int .i64 cr) ∧ v.cell? ⟨w.heap.size, 5, none⟩ = some (.int .i64 ci) ∧ v.cell? ⟨w.heap.size, 6, none⟩ = some (.int .i64 cb) ∧ v.cell? ⟨w.heap.size, 7, none⟩ = some (.bool we) ∧ v.cell? ⟨w.heap.size, 8, none⟩ = some (.bool ca) ∧ v.cell? ⟨g, o + k, none⟩ = some (.int .i64 z))
              (first | exact Sa | exact SD | go_keep)
              (first
                | (go_at_call 30; (with_reducible refine (K2 _).mono ?_); rintro e va ⟨rfl, hbva⟩; have Ta := D1.trans hbva; have Sa := Ta.cells10 hg c0))
            have T3 : Hid (Ow w ⟨cw, ch, cl, cd, cr, ci, cb, we, ca⟩ nil3 va) := Ta
            clear Ta Sa D1 SD hbva K2 T2
            have y0 := T3.out.wk.arr 0
            have y1 := T3.out.wk.arr 1
            have y2 := T3.out.wk.arr 2
            have f0 := T3.out.wk.free3 0
            have f1 := T3.out.wk.free3 1
            have f2 := T3.out.wk.free3 2
            have q0 := T3.out.arr 0
            have q1 := T3.out.arr 1
            have q2 := T3.out.arr 2
            simp at y0 y1 y2 q0 q1 q2
            go_wp2
            exact bodyPost_ret (v := .tuple #[.agg #[.slice none 0 0, .slice none 0 0, .slice none 0 0], .int .i64 6]) (by simp [results, Tryd.results19, go_sem, y0, y1, y2]) rfl (HPN.out _ HE.out (below_three T3.out.below (by omega) _ _ _))
          | true =>
            rw [hzn] at K2
            have Hj2 : Hid (∀ j, j < k → zs.getD j 0 = z → PB = false) := j2
            have Hj3 : Hid ((∀ j, j < k → zs.getD j 0 ≠ z) → GD (k + 1)) := j3 hzn
            clear j1 j2 j3 hzn HG
            go_wp2_with fail
            go_region_held3 (fun v => v.cell? ⟨w.heap.size, 0, none⟩ = some (.int .i64 cw) ∧ v.cell? ⟨w.heap.size, 1, none⟩ = some (.int .i64 ch) ∧ v.cell? ⟨w.heap.size, 2, none⟩ = some (.int .i64 cl) ∧ v.cell? ⟨w.heap.size, 3, none⟩ = some (.int .i64 cd) ∧ v.cell? ⟨w.heap.size, 4, none⟩ = some (.int .i64 cr) ∧ v.cell? ⟨w.heap.size, 5, none⟩ = some (.int .i64 ci) ∧ v.cell? ⟨w.heap.size, 6, none⟩ = some (.int .i64 cb) ∧ v.cell? ⟨w.heap.size, 7, none⟩ = some (.bool we) ∧ v.cell? ⟨w.heap.size, 8, none⟩ = some (.bool ca) ∧ v.cell? ⟨g, o + k, none⟩ = some (.int .i64 z))
              (first | exact Sa | exact SD | go_keep)
              (first
                | (go_at_call 30; (with_reducible refine (K2 _).mono ?_); rintro e va ⟨rfl, hbva⟩; have Ta := D1.trans hbva; have Sa := Ta.cells10 hg c0))
            have T3 : Hid (Ow w ⟨cw, ch, cl, cd, cr, ci, cb, we, ca⟩ nil3 va) := Ta
            clear Ta Sa D1 SD hbva K2 T2
            go_wp2_with fail
            go_loopw [10] (fun i wi => ∃ j : Nat, j ≤ k ∧ i = .int .i64 j ∧ Hid (∀ q, q < j → zs.getD q 0 ≠ z) ∧ Ow w ⟨cw, ch, cl, cd, cr, ci, cb, we, ca⟩ nil3 wi) (fun i _ => k - (RowKit.intOf i).toNat)
            case atStart => exact ⟨0, Nat.zero_le _, rfl, fun q hq => absurd hq (Nat.not_lt_zero _), T3.out⟩
            case round =>
              obtain ⟨j, hj, rfl, HQ, hat⟩ := hrel
              have T4 : Hid (Ow w ⟨cw, ch, cl, cd, cr, ci, cb, we, ca⟩ nil3 wr) := hat
              have ck : wr.cell? ⟨g, o + k, none⟩ = some (.int .i64 z) := (hat.below.cell (p := ⟨g, o + k, none⟩) hg).trans c0
              clear hat T3
              by_cases hjk : j < k
              · have hjz : (j : Int) < (k : Int) := by omega
                have hj0 : (0 : Int) ≤ j := by omega
                have hjn : (j : Int) < (n : Int) := by omega
                have hv := vi_at (l := zs) (k := j) (by rw [HN.out]; omega)
                obtain ⟨g', o', e1, _, cj⟩ := HR.out j _ hv
                simp only [Option.some.injEq, Addr.mk.injEq, and_true] at e1
                obtain ⟨rfl, rfl⟩ := e1
                have cj' : wr.cell? ⟨g, o + j, none⟩ = some (.int .i64 (zs.getD j 0)) := (T4.out.below.cell (p := ⟨g, o + j, none⟩) hg).trans cj
                have Hj : Hid (zs.getD j 0 = z → PB = false) := Hj2.out j hjk
                have Hq : Hid (zs.getD j 0 ≠ z → ∀ q, q < j + 1 → zs.getD q 0 ≠ z) := fun h q hq => by
                  by_cases e : q = j
                  · rw [e]; exact h
                  · exact HQ.out q (by omega)
                clear hv cj HQ
                generalize zs.getD j 0 = y at *
                by_cases hy : y = z
                · subst hy
                  have HE : Hid (PB = false) := Hj.out rfl
                  have hyy : (y == y) = true := by simp
                  have HTN : Hid (∀ m, Ow w ⟨cw, ch, cl, cd, cr, ci, cb, we, ca⟩ nil3 (wr.drewN m)) := fun m => T4.out.drewN m
                  clear Hj Hq T4 hg c0
                  go_wp2_with fail
                  go_quiet (fail)
                  have hTd : Hid (Ow w ⟨cw, ch, cl, cd, cr, ci, cb, we, ca⟩ nil3 (wr.drewN nq)) := HTN.out nq
                  have y0 := hTd.out.wk.arr 0
                  have y1 := hTd.out.wk.arr 1
                  have y2 := hTd.out.wk.arr 2
                  have f0 := hTd.out.wk.free3 0
                  have f1 := hTd.out.wk.free3 1
                  have f2 := hTd.out.wk.free3 2
                  have q0 := hTd.out.arr 0
                  have q1 := hTd.out.arr 1
                  have q2 := hTd.out.arr 2
                  simp at y0 y1 y2 q0 q1 q2
                  go_wp2
                  exact bodyPost_ret (v := .tuple #[.agg #[.slice none 0 0, .slice none 0 0, .slice none 0 0], .int .i64 6]) (by simp [results, Tryd.results19, go_sem, y0, y1, y2]) rfl (HPN.out _ HE.out (below_three hTd.out.below (by omega) _ _ _))
                · have hyy : (y == z) = false := by simp [hy]
                  have HY : Hid (∀ q, q < j + 1 → zs.getD q 0 ≠ z) := Hq.out hy
                  clear Hj Hq hy
                  go_wp2_with fail
                  go_quiet (fail)
                  go_wp2
                  go_roundw
                  case rel => exact ⟨j + 1, by omega, by go_num, HY.out, T4.out.drewN _⟩
                  case measure => simp [RowKit.intOf]; omega
              · obtain rfl : j = k := by omega
                have hjz : ¬ (j : Int) < j := by omega
                have HG2 : Hid (GD (j + 1)) := Hj3.out (fun q hq => HQ.out q hq)
                clear Hj2 Hj3 HQ c0 hg ck
                go_wp2
                go_roundw
                case rel => exact ⟨j + 1, by omega, by go_num, HG2.out, T4.out⟩
                case measure => simp [RowKit.intOf]; omega
        · obtain rfl : k = n := by omega
          have hltz : ¬ (k : Int) < k := by omega
          have hPB := HV4.out HG.out
          obtain ⟨G, L, S, R0, R1, R2, R3', R4, R5, R6, R7⟩ := HRW.out hPB
          have HPY2 : Hid (∀ (B : Nat) (w' : World) (va vb vc : Value), Below w.heap.size w w' → w.heap.size ≤ B → Own 3 w' B va (vi GG) → Own 3 w' B vb (vi LL) → Own 3 w' B vc (vi SS) → PlT _ f zs w (.returned (.tuple #[.agg #[va, vb, vc], .int .i64 0])) w') := fun B w' va vb vc => HPY.out B w' va vb vc hPB
          clear HV1 HV2 HV3 HV4 HG HRW HPY HPN IS hPB
          have HG0 : Hid (G 0 0 = [] ∧ L 0 0 = [] ∧ S 0 0 = []) := R0
          have HGN : Hid (G ND.toNat 0 = GG ∧ L ND.toNat 0 = LL ∧ S ND.toNat 0 = SS) := R1
          have HGl : Hid (∀ l i, i ≤ k → (G l i).length ≤ 2000 ∧ (L l i).length ≤ 2000 ∧ (S l i).length ≤ 2000) := R2
          have HGe : Hid (∀ l, G l k = G (l + 1) 0 ∧ L l k = L (l + 1) 0 ∧ S l k = S (l + 1) 0) := R3'
          have HG4 : Hid (∀ (l i : Nat), i < k → LB (zs.getD i 0) ≠ (l : Int) → G l (i + 1) = G l i ∧ L l (i + 1) = L l i ∧ S l (i + 1) = S l i) := R4
          have HG5 : Hid (∀ (l i : Nat), i < k → LB (zs.getD i 0) = (l : Int) → LB f < (l : Int) → G l (i + 1) = G l i ++ [zs.getD i 0] ∧ L l (i + 1) = L l i ∧ S l (i + 1) = S l i) := R5
          have HG6 : Hid (∀ (l i : Nat), i < k → LB (zs.getD i 0) = (l : Int) → (l : Int) < LB f → G l (i + 1) = G l i ∧ L l (i + 1) = zs.getD i 0 :: L l i ∧ S l (i + 1) = S l i) := R6
          have HG7 : Hid (∀ (l i : Nat), i < k → LB (zs.getD i 0) = (l : Int) → (l : Int) = LB f → G l (i + 1) = G l i ∧ L l (i + 1) = L l i ∧ S l (i + 1) = S l i ++ [zs.getD i 0]) := R7
          clear R0 R1 R2 R3' R4 R5 R6 R7
          obtain ⟨N, hN⟩ : ∃ N : Nat, ND = (N : Int) := ⟨ND.toNat, by omega⟩
          subst hN
          have e : ((N : Int)).toNat = N := by omega
          rw [e] at HGN
          have hN2 : N ≤ 4096 := by omega
          clear e NI
          have HLI : Hid (∀ m, 0 ≤ LB m ∧ LB m < 4096) := LI
          have hlf := LI f
          have X0 : Hid (Ox w ⟨cw, ch, cl, cd, cr, ci, cb, we, ca⟩ (G 0 0) (L 0 0) (S 0 0) wr) := by rw [HG0.out.1, HG0.out.2.1, HG0.out.2.2]; exact Ox.start T2.out
          have K3 := OF f
          generalize LB f = lf at *
          clear LI T2 HG0
          go_wp2_with fail
          go_loopw [11, 12] (fun x _ wi => ∃ l : Nat, l ≤ N ∧ x = .int .i64 l ∧ Ox w ⟨cw, ch, cl, cd, cr, ci, cb, we, ca⟩ (G l 0) (L l 0) (S l 0) wi) (fun x _ _ => N - (RowKit.intOf x).toNat)
          case atStart => exact ⟨0, Nat.zero_le _, rfl, X0.out⟩
          case round =>
            obtain ⟨l, hlN, rfl, hox⟩ := hrel
            obtain ⟨va, vb, vd, how, hr3⟩ := hox
            have T4 : Hid (Ow w ⟨cw, ch, cl, cd, cr, ci, cb, we, ca⟩ #[va, vb, vd] wr) := how
            have Q4 : Hid (R3 (w.heap.size + 3) wr va vb vd (G l 0) (L l 0) (S l 0)) := hr3
            clear how hr3 X0
            obtain ⟨x0, x1, x2, x3, x4, x5, x6, x7, x8⟩ := T4.out.cells
            simp only at x0 x1 x2 x3 x4 x5 x6 x7 x8
            go_wp2_with fail
            go_at_call 33
            refine (NO _).mono ?_
            rintro e v2 ⟨rfl, hb⟩
            have T5 : Hid (Ow w ⟨cw, ch, cl, cd, cr, ci, cb, we, ca⟩ #[va, vb, vd] v2) := T4.out.trans hb
            have Q5 : Hid (R3 (w.heap.size + 3) v2 va vb vd (G l 0) (L l 0) (S l 0)) := Q4.out.below hb
            clear hb T4 Q4 x0 x1 x2 x3 x4 x5 x6 x7 x8
            by_cases hlt2 : l < N
            · have hltz2 : (l : Int) < (N : Int) := by omega
              have hl0 : (0 : Int) ≤ l := by omega
              have X5 : Hid (Ox w ⟨cw, ch, cl, cd, cr, ci, cb, we, ca⟩ (G l 0) (L l 0) (S l 0) v2) := ⟨va, vb, vd, T5.out, Q5.out⟩
              clear T5 Q5 NO
              go_wp2_with fail
              go_loopw [12] (fun y wi => ∃ i : Nat, i ≤ k ∧ y = .int .i64 i ∧ Ox w ⟨cw, ch, cl, cd, cr, ci, cb, we, ca⟩ (G l i) (L l i) (S l i) wi) (fun y _ => k - (RowKit.intOf y).toNat)
              case atStart => exact ⟨0, Nat.zero_le _, rfl, X5.out⟩
              case round =>
                obtain ⟨i, hi, rfl, hox⟩ := hrel
                by_cases hin : i < k
                · have hinz : (i : Int) < (k : Int) := by omega
                  have hi0 : (0 : Int) ≤ i := by omega
                  have hv := vi_at (l := zs) (k := i) (by rw [HN.out]; exact hin)
                  obtain ⟨g, o, rfl, hg, c0⟩ := HR.out i _ hv
                  have j4 := HG4.out l i hin
                  have j5 := HG5.out l i hin
                  have j6 := HG6.out l i hin
                  have j7 := HG7.out l i hin
                  have jl := HGl.out l i hi
                  have K2 := OF (zs.getD i 0)
                  have hlx := HLI.out (zs.getD i 0)
                  clear hv OF X5 HG4 HG5 HG6 HG7 HGe HGl HLI HPY2 HGN HN HR
                  generalize zs.getD i 0 = x at *
                  generalize LB x = lx at *
                  obtain ⟨va, vb, vd, how, hr3⟩ := hox
                  have T6 : Hid (Ow w ⟨cw, ch, cl, cd, cr, ci, cb, we, ca⟩ #[va, vb, vd] wr) := how
                  have Q6 : Hid (R3 (w.heap.size + 3) wr va vb vd (G l i) (L l i) (S l i)) := hr3
                  clear how hr3
                  have D1 := T6.out.drew
                  have SD := D1.cells10 hg c0
                  by_cases hx : lx = (l : Int)
                  · subst hx
                    have hne : ((l : Int) != (l : Int)) = false := by simp
                    clear j4 hlx
                    go_wp2_with fail
                    go_region_held3 (fun v => v.cell? ⟨w.heap.size, 0, none⟩ = some (.int .i64 cw) ∧ v.cell? ⟨w.heap.size, 1, none⟩ = some (.int .i64 ch) ∧ v.cell? ⟨w.heap.size, 2, none⟩ = some (.int .i64 cl) ∧ v.cell? ⟨w.heap.size, 3, none⟩ = some (.int .i64 cd) ∧ v.cell? ⟨w.heap.size, 4, none⟩ = some (.int .i64 cr) ∧ v.cell? ⟨w.heap.size, 5, none⟩ = some (.int .i64 ci) ∧ v.cell? ⟨w.heap.size, 6, none⟩ = some (.int .i64 cb) ∧ v.cell? ⟨w.heap.size, 7, none⟩ = some (.bool we) ∧ v.cell? ⟨w.heap.size, 8, none⟩ = some (.bool ca) ∧ v.cell? ⟨g, o + i, none⟩ = some (.int .i64 x))
                      (first | exact Sa | exact SD | go_keep)
                      (first
                        | (go_at_call 34; (with_reducible refine (K2 _).mono ?_); rintro e ua ⟨rfl, hbua⟩; have Ta := D1.trans hbua; have Sa := Ta.cells10 hg c0))
                    have T7 : Hid (Ow w ⟨cw, ch, cl, cd, cr, ci, cb, we, ca⟩ #[va, vb, vd] ua) := Ta
                    have Q7 : Hid (R3 (w.heap.size + 3) ua va vb vd (G l i) (L l i) (S l i)) := (Q6.out.below (below_drew wr)).below hbua
                    clear Ta Sa D1 SD hbua K2 T6 Q6
                    rcases Int.lt_trichotomy (l : Int) lf with hc1 | hc1 | hc1
                    · have hc2 : ¬ (l : Int) > lf := by omega
                      have hc3 : ((l : Int) == lf) = false := by simp; omega
                      have HJ : Hid (G l (i + 1) = G l i ∧ L l (i + 1) = x :: L l i ∧ S l (i + 1) = S l i) := j6 (by simp) hc1
                      clear j5 j6 j7
                      obtain ⟨x0, x1, x2, x3, x4, x5, x6, x7, x8⟩ := T7.out.cells
                      simp only at x0 x1 x2 x3 x4 x5 x6 x7 x8
                      go_wp2_with fail
                      go_at_call 34
                      refine (K3 _).mono ?_
                      rintro e u0b ⟨rfl, hb⟩
                      have T8 : Hid (Ow w ⟨cw, ch, cl, cd, cr, ci, cb, we, ca⟩ _ u0b) := T7.out.trans hb
                      have Q8 : Hid (R3 (w.heap.size + 3) u0b _ _ _ _ _ _) := Q7.out.below hb
                      clear hb T7 Q7 x0 x1 x2 x3 x4 x5 x6 x7 x8
                      obtain ⟨x0, x1, x2, x3, x4, x5, x6, x7, x8⟩ := T8.out.cells
                      simp only at x0 x1 x2 x3 x4 x5 x6 x7 x8
                      go_wp2_with fail
                      go_at_call 34
                      refine (K3 _).mono ?_
                      rintro e u1b ⟨rfl, hb⟩
                      have T9 : Hid (Ow w ⟨cw, ch, cl, cd, cr, ci, cb, we, ca⟩ _ u1b) := T8.out.trans hb
                      have Q9 : Hid (R3 (w.heap.size + 3) u1b _ _ _ _ _ _) := Q8.out.below hb
                      clear hb T8 Q8 x0 x1 x2 x3 x4 x5 x6 x7 x8
                      go_upto_region 24 with fail
                      go_cut [] from 91 to 99 (fun wc => ∃ v', Ow w ⟨cw, ch, cl, cd, cr, ci, cb, we, ca⟩ #[va, v', vd] wc ∧ R3 (w.heap.size + 3) wc va v' vd (G l i) (x :: L l i) (S l i))
                      case first =>
                        go_wp2_with fail
                        have C1 := T9.out.drew.arr 1
                        have S1 := (T9.out.drew.below.cell (p := ⟨g, o + i, none⟩) hg).trans c0
                        have hb2 : Below u1b.heap.size u1b (u1b.alloc (.cells #[.int .i64 x] 3)).drew := ((Below.refl _ _).alloc (Nat.le_refl _) _).drew
                        have D2 := T9.out.trans hb2
                        have Q2 := (Q9.out.below hb2).rot
                        have N2 : Own 3 (u1b.alloc (.cells #[.int .i64 x] 3)).drew (w.heap.size + 3) (.slice (some ⟨u1b.heap.size, 0, none⟩) 1 1) (vi [x]) := (own_new1 u1b _ x T9.out.lt).below (below_drew _)
                        have N3 : va.ownBlock ≠ some u1b.heap.size := fun e => by have := (own_lt Q9.out.oa e).2; omega
                        have N4 : vd.ownBlock ≠ some u1b.heap.size := fun e => by have := (own_lt Q9.out.oc e).2; omega
                        have C2 := D2.arr 1
                        have S2 := (D2.below.cell (p := ⟨g, o + i, none⟩) hg).trans c0
                        have hbs := D2.lt
                        have hlg : (L l i).length ≤ 100000 := by omega
                        go_region_law (refine step_pre3 (by rfl) _ _ 31 i0 (by rfl) Tryd.underlying31 ki hz0 hz1 hz2 (w.heap.size + 3) _ _ _ _ (L l i) _ _ x _ (by rfl) Q2 (by rfl) N2 N4 N3 hlg hbs ?_; intro v1' wb r1 kb; obtain ⟨ra, za, rfl, -, -, -⟩ := r1.oa.rd; have D3 := D2.low kb; have F3 := D3.free 1; have C3 := D3.arr 1; have D4 := D3.set1 (.slice ra (vi (x :: L l i)).length za))
                        all_goals
                          go_wp2_with fail
                          go_meet
                          exact ⟨_, D4, (r1.rot.rot).cell (by omega)⟩
                      case rest =>
                      obtain ⟨vn, how, hr3⟩ := hcut
                      have T10 : Hid (Ow w ⟨cw, ch, cl, cd, cr, ci, cb, we, ca⟩ _ wc) := how
                      have Q10 : Hid (R3 (w.heap.size + 3) wc _ _ _ _ _ _) := hr3
                      clear how hr3 T9 Q9
                      obtain ⟨x0, x1, x2, x3, x4, x5, x6, x7, x8⟩ := T10.out.cells
                      simp only at x0 x1 x2 x3 x4 x5 x6 x7 x8
                      go_wp2_with fail
                      go_at_call 34
                      refine (K3 _).mono ?_
                      rintro e u2b ⟨rfl, hb⟩
                      have T11 : Hid (Ow w ⟨cw, ch, cl, cd, cr, ci, cb, we, ca⟩ _ u2b) := T10.out.trans hb
                      have Q11 : Hid (R3 (w.heap.size + 3) u2b _ _ _ _ _ _) := Q10.out.below hb
                      clear hb T10 Q10 x0 x1 x2 x3 x4 x5 x6 x7 x8
                      go_wp2
                      go_roundw
                      case rel => exact ⟨i + 1, by omega, by go_num, by rw [HJ.out.1, HJ.out.2.1, HJ.out.2.2]; exact ⟨_, _, _, T11.out, Q11.out⟩⟩
                      case measure => simp [RowKit.intOf]; omega
                    · have hc2 : ¬ (l : Int) > lf := by omega
                      have hc4 : ¬ (l : Int) < lf := by omega
                      have hc3 : ((l : Int) == lf) = true := by simp; omega
                      have HJ : Hid (G l (i + 1) = G l i ∧ L l (i + 1) = L l i ∧ S l (i + 1) = S l i ++ [x]) := j7 (by simp) hc1
                      clear j5 j6 j7 hc1
                      obtain ⟨x0, x1, x2, x3, x4, x5, x6, x7, x8⟩ := T7.out.cells
                      simp only at x0 x1 x2 x3 x4 x5 x6 x7 x8
                      go_wp2_with fail
                      go_at_call 34
                      refine (K3 _).mono ?_
                      rintro e u0b ⟨rfl, hb⟩
                      have T8 : Hid (Ow w ⟨cw, ch, cl, cd, cr, ci, cb, we, ca⟩ _ u0b) := T7.out.trans hb
                      have Q8 : Hid (R3 (w.heap.size + 3) u0b _ _ _ _ _ _) := Q7.out.below hb
                      clear hb T7 Q7 x0 x1 x2 x3 x4 x5 x6 x7 x8
                      obtain ⟨x0, x1, x2, x3, x4, x5, x6, x7, x8⟩ := T8.out.cells
                      simp only at x0 x1 x2 x3 x4 x5 x6 x7 x8
                      go_wp2_with fail
                      go_at_call 34
                      refine (K3 _).mono ?_
                      rintro e u1b ⟨rfl, hb⟩
                      have T9 : Hid (Ow w ⟨cw, ch, cl, cd, cr, ci, cb, we, ca⟩ _ u1b) := T8.out.trans hb
                      have Q9 : Hid (R3 (w.heap.size + 3) u1b _ _ _ _ _ _) := Q8.out.below hb
                      clear hb T8 Q8 x0 x1 x2 x3 x4 x5 x6 x7 x8
                      obtain ⟨x0, x1, x2, x3, x4, x5, x6, x7, x8⟩ := T9.out.cells
                      simp only at x0 x1 x2 x3 x4 x5 x6 x7 x8
                      go_wp2_with fail
                      go_at_call 34
                      refine (K3 _).mono ?_
                      rintro e u2b ⟨rfl, hb⟩
                      have T10 : Hid (Ow w ⟨cw, ch, cl, cd, cr, ci, cb, we, ca⟩ _ u2b) := T9.out.trans hb
                      have Q10 : Hid (R3 (w.heap.size + 3) u2b _ _ _ _ _ _) := Q9.out.below hb
                      clear hb T9 Q9 x0 x1 x2 x3 x4 x5 x6 x7 x8
                      go_wp2_with fail
                      have C1 := T10.out.drew.arr 2
                      have S1 := (T10.out.drew.below.cell (p := ⟨g, o + i, none⟩) hg).trans c0
                      have hb2 : Below u2b.heap.size u2b (u2b.alloc (.cells #[.int .i64 x] 3)).drew := ((Below.refl _ _).alloc (Nat.le_refl _) _).drew
                      have D2 := T10.out.trans hb2
                      have Q2 := (Q10.out.below hb2).rot.rot
                      have N2 : RdA (u2b.alloc (.cells #[.int .i64 x] 3)).drew (some ⟨u2b.heap.size, 0, none⟩) (vi [x]) := (RdA.new1 u2b x).below (below_drew _)
                      have C2 := D2.arr 2
                      have S2 := (D2.below.cell (p := ⟨g, o + i, none⟩) hg).trans c0
                      have hbs := D2.lt
                      have hlg : (S l i).length ≤ 100000 := by omega
                      go_region_law (refine step_app3 (by rfl) _ _ 31 i0 (by rfl) Tryd.underlying31 ki hz0 hz1 hz2 (w.heap.size + 3) _ _ _ _ (S l i) _ _ x _ (by rfl) Q2 (by rfl) N2 hlg hbs ?_; intro v1' wb r1 kb; obtain ⟨ra, za, rfl, -, -, -⟩ := r1.oa.rd; have D3 := D2.low kb; have F3 := D3.free 2; have C3 := D3.arr 2; have D4 := D3.set2 (.slice ra (vi (S l i ++ [x])).length za))
                      all_goals
                        have X3 : Hid (Ox w ⟨cw, ch, cl, cd, cr, ci, cb, we, ca⟩ (G l i) (L l i) (S l i ++ [x]) _) := ⟨_, _, _, D4, (r1.rot).cell (by omega)⟩
                        clear D4 r1 C1 C2 C3 F3 D3 kb
                        go_wp2
                        go_roundw
                        case rel => exact ⟨i + 1, by omega, by go_num, by rw [HJ.out.1, HJ.out.2.1, HJ.out.2.2]; exact X3.out⟩
                        case measure => simp [RowKit.intOf]; omega
                    · have hc4 : ¬ (l : Int) < lf := by omega
                      have hc3 : ((l : Int) == lf) = false := by simp; omega
                      have HJ : Hid (G l (i + 1) = G l i ++ [x] ∧ L l (i + 1) = L l i ∧ S l (i + 1) = S l i) := j5 (by simp) hc1
                      clear j5 j6 j7
                      obtain ⟨x0, x1, x2, x3, x4, x5, x6, x7, x8⟩ := T7.out.cells
                      simp only at x0 x1 x2 x3 x4 x5 x6 x7 x8
                      go_wp2_with fail
                      go_at_call 34
                      refine (K3 _).mono ?_
                      rintro e u0b ⟨rfl, hb⟩
                      have T8 : Hid (Ow w ⟨cw, ch, cl, cd, cr, ci, cb, we, ca⟩ _ u0b) := T7.out.trans hb
                      have Q8 : Hid (R3 (w.heap.size + 3) u0b _ _ _ _ _ _) := Q7.out.below hb
                      clear hb T7 Q7 x0 x1 x2 x3 x4 x5 x6 x7 x8
                      go_upto_region 22 with fail
                      go_cut [] from 77 to 85 (fun wc => ∃ v', Ow w ⟨cw, ch, cl, cd, cr, ci, cb, we, ca⟩ #[v', vb, vd] wc ∧ R3 (w.heap.size + 3) wc v' vb vd (G l i ++ [x]) (L l i) (S l i))
                      case first =>
                        go_wp2_with fail
                        have C1 := T8.out.drew.arr 0
                        have S1 := (T8.out.drew.below.cell (p := ⟨g, o + i, none⟩) hg).trans c0
                        have hb2 : Below u0b.heap.size u0b (u0b.alloc (.cells #[.int .i64 x] 3)).drew := ((Below.refl _ _).alloc (Nat.le_refl _) _).drew
                        have D2 := T8.out.trans hb2
                        have Q2 := (Q8.out.below hb2)
                        have N2 : RdA (u0b.alloc (.cells #[.int .i64 x] 3)).drew (some ⟨u0b.heap.size, 0, none⟩) (vi [x]) := (RdA.new1 u0b x).below (below_drew _)
                        have C2 := D2.arr 0
                        have S2 := (D2.below.cell (p := ⟨g, o + i, none⟩) hg).trans c0
                        have hbs := D2.lt
                        have hlg : (G l i).length ≤ 100000 := by omega
                        go_region_law (refine step_app3 (by rfl) _ _ 31 i0 (by rfl) Tryd.underlying31 ki hz0 hz1 hz2 (w.heap.size + 3) _ _ _ _ (G l i) _ _ x _ (by rfl) Q2 (by rfl) N2 hlg hbs ?_; intro v1' wb r1 kb; obtain ⟨ra, za, rfl, -, -, -⟩ := r1.oa.rd; have D3 := D2.low kb; have F3 := D3.free 0; have C3 := D3.arr 0; have D4 := D3.set0 (.slice ra (vi (G l i ++ [x])).length za))
                        all_goals
                          go_wp2_with fail
                          go_meet
                          exact ⟨_, D4, (r1).cell (by omega)⟩
                      case rest =>
                      obtain ⟨vn, how, hr3⟩ := hcut
                      have T9 : Hid (Ow w ⟨cw, ch, cl, cd, cr, ci, cb, we, ca⟩ _ wc) := how
                      have Q9 : Hid (R3 (w.heap.size + 3) wc _ _ _ _ _ _) := hr3
                      clear how hr3 T8 Q8
                      obtain ⟨x0, x1, x2, x3, x4, x5, x6, x7, x8⟩ := T9.out.cells
                      simp only at x0 x1 x2 x3 x4 x5 x6 x7 x8
                      go_wp2_with fail
                      go_at_call 34
                      refine (K3 _).mono ?_
                      rintro e u1b ⟨rfl, hb⟩
                      have T10 : Hid (Ow w ⟨cw, ch, cl, cd, cr, ci, cb, we, ca⟩ _ u1b) := T9.out.trans hb
                      have Q10 : Hid (R3 (w.heap.size + 3) u1b _ _ _ _ _ _) := Q9.out.below hb
                      clear hb T9 Q9 x0 x1 x2 x3 x4 x5 x6 x7 x8
                      obtain ⟨x0, x1, x2, x3, x4, x5, x6, x7, x8⟩ := T10.out.cells
                      simp only at x0 x1 x2 x3 x4 x5 x6 x7 x8
                      go_wp2_with fail
                      go_at_call 34
                      refine (K3 _).mono ?_
                      rintro e u2b ⟨rfl, hb⟩
                      have T11 : Hid (Ow w ⟨cw, ch, cl, cd, cr, ci, cb, we, ca⟩ _ u2b) := T10.out.trans hb
                      have Q11 : Hid (R3 (w.heap.size + 3) u2b _ _ _ _ _ _) := Q10.out.below hb
                      clear hb T10 Q10 x0 x1 x2 x3 x4 x5 x6 x7 x8
                      go_wp2
                      go_roundw
                      case rel => exact ⟨i + 1, by omega, by go_num, by rw [HJ.out.1, HJ.out.2.1, HJ.out.2.2]; exact ⟨_, _, _, T11.out, Q11.out⟩⟩
                      case measure => simp [RowKit.intOf]; omega
                  · have hne : (lx != (l : Int)) = true := by simpa using hx
                    have HJ : Hid (G l (i + 1) = G l i ∧ L l (i + 1) = L l i ∧ S l (i + 1) = S l i) := j4 hx
                    clear j4 j5 j6 j7 K3
                    go_wp2_with fail
                    go_region_held3 (fun v => v.cell? ⟨w.heap.size, 0, none⟩ = some (.int .i64 cw) ∧ v.cell? ⟨w.heap.size, 1, none⟩ = some (.int .i64 ch) ∧ v.cell? ⟨w.heap.size, 2, none⟩ = some (.int .i64 cl) ∧ v.cell? ⟨w.heap.size, 3, none⟩ = some (.int .i64 cd) ∧ v.cell? ⟨w.heap.size, 4, none⟩ = some (.int .i64 cr) ∧ v.cell? ⟨w.heap.size, 5, none⟩ = some (.int .i64 ci) ∧ v.cell? ⟨w.heap.size, 6, none⟩ = some (.int .i64 cb) ∧ v.cell? ⟨w.heap.size, 7, none⟩ = some (.bool we) ∧ v.cell? ⟨w.heap.size, 8, none⟩ = some (.bool ca) ∧ v.cell? ⟨g, o + i, none⟩ = some (.int .i64 x))
                      (first | exact Sa | exact SD | go_keep)
                      (first
                        | (go_at_call 34; (with_reducible refine (K2 _).mono ?_); rintro e ua ⟨rfl, hbua⟩; have Ta := D1.trans hbua; have Sa := Ta.cells10 hg c0))
                    have T7 : Hid (Ow w ⟨cw, ch, cl, cd, cr, ci, cb, we, ca⟩ #[va, vb, vd] ua) := Ta
                    have Q7 : Hid (R3 (w.heap.size + 3) ua va vb vd (G l i) (L l i) (S l i)) := (Q6.out.below (below_drew wr)).below hbua
                    clear Ta Sa D1 SD hbua K2 T6 Q6
                    go_wp2
                    go_roundw
                    case rel => exact ⟨i + 1, by omega, by go_num, by rw [HJ.out.1, HJ.out.2.1, HJ.out.2.2]; exact ⟨_, _, _, T7.out, Q7.out⟩⟩
                    case measure => simp [RowKit.intOf]; omega
                · obtain rfl : i = k := by omega
                  have hinz : ¬ (i : Int) < i := by omega
                  have HX : Hid (Ox w ⟨cw, ch, cl, cd, cr, ci, cb, we, ca⟩ (G (l + 1) 0) (L (l + 1) 0) (S (l + 1) 0) wr) := by rw [← (HGe.out l).1, ← (HGe.out l).2.1, ← (HGe.out l).2.2]; exact hox
                  clear hox OF K3
                  go_wp2
                  go_roundw
                  case rel => exact ⟨l + 1, by omega, by go_num, HX.out⟩
                  case measure => simp [RowKit.intOf]; omega
            · obtain rfl : l = N := by omega
              have hltz2 : ¬ (l : Int) < l := by omega
              obtain ⟨ra, za, rfl, -, -, -⟩ := Q5.out.oa.rd
              obtain ⟨rb, zb, rfl, -, -, -⟩ := Q5.out.ob.rd
              obtain ⟨rc, zc, rfl, -, -, -⟩ := Q5.out.oc.rd
              generalize (vi (G l 0)).length = na at *
              generalize (vi (L l 0)).length = nb at *
              generalize (vi (S l 0)).length = nc at *
              clear OF NO K3
              have y0 := T5.out.wk.arr 0
              have y1 := T5.out.wk.arr 1
              have y2 := T5.out.wk.arr 2
              have f0 := T5.out.wk.free3 0
              have f1 := T5.out.wk.free3 1
              have f2 := T5.out.wk.free3 2
              have q0 := T5.out.arr 0
              have q1 := T5.out.arr 1
              have q2 := T5.out.arr 2
              simp at y0 y1 y2 q0 q1 q2
              go_wp2
              exact bodyPost_ret (v := .tuple #[.agg #[.slice ra na za, .slice rb nb zb, .slice rc nc zc], .int .i64 0]) (by simp [results, Tryd.results19, go_sem, y0, y1, y2]) rfl (HPY2.out (w.heap.size + 3) _ _ _ _ (below_three (b := w.heap.size + 1) T5.out.below (by omega) _ _ _) (by omega)
                (by rw [← HGN.out.1]; exact own_three (b := w.heap.size + 1) Q5.out.oa (by omega) _ _ _) (by rw [← HGN.out.2.1]; exact own_three (b := w.heap.size + 1) Q5.out.ob (by omega) _ _ _) (by rw [← HGN.out.2.2]; exact own_three (b := w.heap.size + 1) Q5.out.oc (by omega) _ _ _))
end Go.Proofs.YtcebfkkpclnmoaaDoor
