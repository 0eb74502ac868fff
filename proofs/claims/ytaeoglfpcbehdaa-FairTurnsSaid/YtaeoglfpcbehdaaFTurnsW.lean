/-
  The walk of FairTurns.
-/
import Derived.Test.YtaeoglfpcbehdaaFSt
namespace Go.Proofs.Ytaeoglfpcbehdaa
open Go.RowKit

section
variable {P : Program} {ops : Array Oper} {Q : Exit → Act → World → Prop} {md : Region.Mode} {S : World → Prop} {st : Nat}
theorem wpAnyG_any {fuel : Nat} {listed : Array Bool} {a : Act} {w : World} (l : List Nat) (hr : Region.ready md ops listed = l) (hl : l.isEmpty = false)
    (h : ∀ i ∈ l, wpOp P ops Q i (fun a' w' => ((listed.setIfInBounds i true).getD st true = true ∨ S w') ∧ wpAnyG P md ops Q S st fuel (listed.setIfInBounds i true) a' w') a w) : wpAnyG P md ops Q S st (fuel + 1) listed a w := by
  subst hr
  exact ⟨fun h0 => (by rw [h0] at hl; cases hl), h⟩
theorem wpOpG {i : Nat} {o : Oper} {fuel : Nat} {listed : Array Bool} {a : Act} {w : World} (ho : ops[i]? = some o)
    (h : ∀ K' : Act → World → Prop, Shut (∀ a w, ((listed.setIfInBounds i true).getD st true = true ∨ S w) → wpAnyG P md ops Q S st fuel (listed.setIfInBounds i true) a w → K' a w) → if Region.wanted o (yielded ops a.tmps) = true then Oper.wp P o a w K' Q else K' (a.put o.dst undef) w) :
    wpOp P ops Q i (fun a' w' => ((listed.setIfInBounds i true).getD st true = true ∨ S w') ∧ wpAnyG P md ops Q S st fuel (listed.setIfInBounds i true) a' w') a w :=
  wpOp_step ho (fun K' hK => h K' (fun a w hS hW => hK a w ⟨hS, hW⟩))
end
theorem mem2 {i a b : Nat} (h : i ∈ [a, b]) : i = a ∨ i = b := by simpa using h

set_option maxRecDepth 100000 in
set_option maxHeartbeats 16000000 in
theorem turns_law (pl : Int) (R : List BR) (a : Option Addr) (c : Nat) (w : World) (hr : Rd w a (brs R)) (ho : ∀ r ∈ R, BRok w r) (hm : R.length ≤ maxLen) :
    Calls Try.prog 3 #[.int .i64 pl, .slice a R.length c] w fun e w' => e = .returned (.bool true) ∧ Below w.heap.size w w' := by
  have LV := lives_any w
  have NC := fun v => new_any pl v
  have RN := fun v => rnew_any pl v
  obtain ⟨h0, hN, -⟩ := clamp_pos pl
  generalize hcl : clampN pl = N at *
  have HCL : Hid (clampN pl = N) := hcl
  clear hcl
  have FC := fun v (h : Rd v a (brs R)) (h2 : ∀ r ∈ R, BRok v r) => few_any R a c v h h2 hm
  have FL := fewR_len R
  have FO := fun v (h : ∀ r ∈ R, BRok v r) => fewR_ok h
  generalize fewR R = F at *
  have HR : Hid (Rd w a (brs R)) := hr
  have HO : Hid (∀ r ∈ R, BRok w r) := ho
  have HFO : Hid (∀ v, (∀ r ∈ R, BRok v r) → ∀ r ∈ F, BRok v r ∧ r.l.length ≤ 20) := FO
  clear hr ho hm FO
  go_enter Try.func3, Try.ntmps3
  go_wp2_with fail
  go_at_call 9
  with_reducible refine LV.mono ?_
  rintro e w1 ⟨rfl, hb1⟩
  have B1 : Hid (Below w.heap.size w w1) := hb1
  clear LV hb1
  go_wp2_with fail
  go_at_call 10
  with_reducible refine (NC _).mono ?_
  rintro e w' ⟨rfl, rfl⟩
  have KA : Hid (Fb (w1.alloc (.cells (oc pl 0) 48)) w1.heap.size N 0) := Fb.new _ HCL.out
  have Y0 : Hid (Below w.heap.size w (w1.alloc (.cells (oc pl 0) 48))) := B1.out.alloc B1.out.size _
  have hwb : w.heap.size ≤ w1.heap.size := B1.out.size
  clear NC B1
  generalize w1.alloc (.cells (oc pl 0) 48) = v0 at *
  obtain ⟨b, hb⟩ : ∃ b, w1.heap.size = b := ⟨_, rfl⟩
  rw [hb] at KA hwb ⊢
  clear hb
  have RN0 := RN v0
  go_wp2_with fail
  go_at_call 11
  with_reducible refine RN0.mono ?_
  rintro e v1 ⟨rfl, hb1⟩
  have KA2 : Hid (Fb (v1.alloc (.cells #[.int .i64 (N : Int), .int .i64 (-1)] 27)) b N 0) := (KA.out.next hb1).alloc _
  have KR2 : Hid (Bk (v1.alloc (.cells #[.int .i64 (N : Int), .int .i64 (-1)] 27)) v1.heap.size (fc N 0) 27) := Bk.new _ _ _
  have Y2 : Hid (Below w.heap.size w (v1.alloc (.cells #[.int .i64 (N : Int), .int .i64 (-1)] 27))) := (Y0.out.trans (hb1.mono Y0.out.size)).alloc (Nat.le_trans Y0.out.size hb1.size) _
  have hne : ¬ b = v1.heap.size := by have := (KA.out.next hb1).lt; omega
  have hwr : w.heap.size ≤ v1.heap.size := Nat.le_trans Y0.out.size hb1.size
  clear RN0 RN hb1 KA Y0
  go_upto_region 4 with fail
  generalize v1.alloc (.cells #[.int .i64 (N : Int), .int .i64 (-1)] 27) = v3 at *
  obtain ⟨rb, hrb⟩ : ∃ b, v1.heap.size = b := ⟨_, rfl⟩
  rw [hrb] at KR2 hne hwr ⊢
  clear hrb
  have FC0 := FC v3 (HR.out.below Y2.out) (fun r hr => (HO.out r hr).below Y2.out)
  clear FC
  go_wp2_with fail
  go_at_call 12
  with_reducible refine FC0.mono ?_
  rintro e v4 ⟨fv, rfl, ow, hb1⟩
  obtain ⟨fa, fcap, rfl, -, -, rd1⟩ := ow.rd
  rw [brs_len]
  have RW1 : Hid (Rws v4 fa F) := ⟨rd1, HFO.out v4 fun r hr => ((HO.out r hr).below Y2.out).below hb1⟩
  have KA1 : Hid (Fb v4 b N 0) := KA2.out.next hb1
  have KR1 : Hid (Bk v4 rb (fc N 0) 27) := KR2.out.next hb1
  have Y1 : Hid (Below w.heap.size w v4) := Y2.out.trans (hb1.mono Y2.out.size)
  clear FC0 ow rd1 hb1 KA2 KR2 Y2 HR HO HFO
  obtain ⟨n, hn⟩ : ∃ n, F.length = n := ⟨_, rfl⟩
  have HN : Hid (F.length = n) := hn
  rw [hn] at FL ⊢
  clear hn
  go_wp2_with fail
  go_loopw [7] (fun x wr => ∃ j l : Nat, j ≤ n ∧ x = .int .i64 j ∧ l ≤ N ∧ Fb wr b N l ∧ Bk wr rb (fc N l) 27 ∧ Rws wr fa F ∧ Below w.heap.size w wr) (fun x _ => n - (RowKit.intOf x).toNat)
  case atStart => exact ⟨0, 0, Nat.zero_le _, rfl, Nat.zero_le _, KA1.out, KR1.out, RW1.out, Y1.out⟩
  case round =>
    obtain ⟨j, l, hj, rfl, hl, ka, kb, rw1, y1⟩ := hrel
    clear KA1 KR1 RW1 Y1
    have KA : Hid (Fb wr b N l) := ka
    have KR : Hid (Bk wr rb (fc N l) 27) := kb
    have RW : Hid (Rws wr fa F) := rw1
    have Y : Hid (Below w.heap.size w wr) := y1
    clear ka kb rw1 y1
    by_cases hlt : j < n
    case neg =>
      have e4 : ¬ (j : Int) < (n : Int) := by omega
      go_wp2
      go_ret
      exact ⟨rfl, Y.out⟩
    have e4 : (j : Int) < (n : Int) := by omega
    have e5 : (0 : Int) ≤ (j : Int) := by omega
    have hjF : j < F.length := by rw [HN.out]; exact hlt
    have RAT : Hid (∀ V, Rws V fa F → ∃ g o, fa = some ⟨g, o, none⟩ ∧ g < V.heap.size ∧ V.cell? ⟨g, o + j, none⟩ = some (.slice F[j].a F[j].l.length F[j].c) ∧ Rd V F[j].a (vb F[j].l) ∧ F[j].l.length ≤ 20) := show _ from fun V h => h.at hjF
    generalize F[j] = r at *
    obtain ⟨ra, rl, rc⟩ := r
    simp only at RAT
    obtain ⟨g, o, rfl, hg0, c0, r0, hrl⟩ := RAT.out wr RW.out
    have CAT : Hid (∀ V, Rws V (some ⟨g, o, none⟩) F → V.cell? ⟨g, o + j, none⟩ = some (.slice ra rl.length rc) ∧ Rd V ra (vb rl)) := show _ from fun V h => by
      obtain ⟨g', o', e, -, h1, h2, -⟩ := RAT.out V h
      simp only [Option.some.injEq, Addr.mk.injEq] at e
      obtain ⟨rfl, rfl, -⟩ := e
      exact ⟨h1, h2⟩
    clear RAT
    have AC := fun v => at_any ra rl.length rc v
    have SC := see_at (c := rc) h0 hN hl KA.out r0
    have RS := fun V (h : Rd V ra (vb rl)) => rsee_any N l h0 hN hl ra rl rc V h
    have RX := fun V (h : Rd V ra (vb rl)) => rnext_any N l h0 hN hl ra rl rc V h
    have hl2 := nxtl_le (W := wl rl) h0 hl
    have NX := fun V (h : Fb V b N l) (h2 : Rd V ra (vb rl)) => next_at (c := rc) h0 hN hl h h2
    have OF := fun V (h : Fb V b N l) (h2 : Rd V ra (vb rl)) => of_any (c := rc) h0 hN hl h h2
    have LA := fun V (l : Nat) (h : Fb V b N l) => last_any h
    have PA := fun V (l : Nat) (h : Fb V b N l) => places_any h
    generalize nxtl N l (wl rl) = l2 at *
    generalize ask N l (wl rl) = q at *
    obtain ⟨k, is⟩ := q
    have CAT2 : Hid (∀ V, Rws V (some ⟨g, o, none⟩) F → Rd V ra (vb rl)) := show _ from fun V h => (CAT.out V h).2
    have CAT1 : Hid (∀ V, Rws V (some ⟨g, o, none⟩) F → V.cell? ⟨g, o + j, none⟩ = some (.slice ra rl.length rc)) := show _ from fun V h => (CAT.out V h).1
    clear CAT r0
    generalize vb rl = vrl at *
    generalize rl.length = m at *
    clear rl
    go_upto_region 9 with (first
      | (go_at_call 14; (with_reducible refine (AC _).mono ?_); rintro e w' ⟨rfl, rfl⟩)
      | (go_at_call 13; (with_reducible refine SC.mono ?_); rintro e w2 ⟨rfl, h2⟩))
    have KA2 : Hid (Fb w2 b N l) := KA.out.next h2
    have KR2 : Hid (Bk w2 rb (fc N l) 27) := KR.out.next h2
    have RW2 : Hid (Rws w2 (some ⟨g, o, none⟩) F) := RW.out.below h2
    have Y2 : Hid (Below w.heap.size w w2) := Y.out.trans (h2.mono Y.out.size)
    clear KA KR RW Y SC h2 c0
    refine wp_region_G (fun V : World => V.cell? ⟨rb, 0, none⟩ = some (.int .i64 (N : Int)) ∧ V.cell? ⟨rb, 1, none⟩ = some (.int .i64 ((l : Int) - 1)) ∧ V.cell? ⟨g, o + j, none⟩ = some (.slice ra m rc)) 10 (by kernel_rfl) ?_
    have X0 : Hid (Below w2.heap.size w2 w2.drew) := (Below.refl _ _).drew
    have SS : Hid (∀ V, Below w2.heap.size w2 V → V.cell? ⟨rb, 0, none⟩ = some (.int .i64 (N : Int)) ∧ V.cell? ⟨rb, 1, none⟩ = some (.int .i64 ((l : Int) - 1)) ∧ V.cell? ⟨g, o + j, none⟩ = some (.slice ra m rc)) := show _ from fun V h => ⟨(KR2.out.next h).cell 0, (KR2.out.next h).cell 1, CAT1.out V (RW2.out.below h)⟩
    have S0 : (fun V : World => V.cell? ⟨rb, 0, none⟩ = some (.int .i64 (N : Int)) ∧ V.cell? ⟨rb, 1, none⟩ = some (.int .i64 ((l : Int) - 1)) ∧ V.cell? ⟨g, o + j, none⟩ = some (.slice ra m rc)) w2.drew := SS.out _ X0.out
    refine wpAnyG_take [10] (some 42) (i := 0) (v := ?va0) rfl rfl (by kernel_rfl) (by kernel_rfl) (by kernel_rfl) (by kernel_rfl) (fun _ _ _ h => h) (Or.inl ⟨by rfl, ?ya0⟩) S0 ?ra0
    case ya0 => (intro V hSV; obtain ⟨d0, d1, d2⟩ := hSV; go_simp; try with_reducible rfl)
    simp only [Act.put, List.setIfInBounds_toArray, List.set_cons_zero, List.set_cons_succ]
    refine wpAnyG_take [10] (some 43) (i := 1) (v := ?va1) rfl rfl (by kernel_rfl) (by kernel_rfl) (by kernel_rfl) (by kernel_rfl) (fun _ _ _ h => h) (Or.inl ⟨by rfl, ?ya1⟩) S0 ?ra1
    case ya1 => (intro V hSV; obtain ⟨d0, d1, d2⟩ := hSV; go_simp; try with_reducible rfl)
    simp only [Act.put, List.setIfInBounds_toArray, List.set_cons_zero, List.set_cons_succ]
    refine wpAnyG_take [10] (some 44) (i := 2) (v := ?va2) rfl rfl (by kernel_rfl) (by kernel_rfl) (by kernel_rfl) (by kernel_rfl) (fun _ _ _ h => h) (Or.inl ⟨by rfl, ?ya2⟩) S0 ?ra2
    case ya2 => (intro V hSV; obtain ⟨d0, d1, d2⟩ := hSV; go_simp; try with_reducible rfl)
    simp only [Act.put, List.setIfInBounds_toArray, List.set_cons_zero, List.set_cons_succ]
    refine wpAnyG_take [10] (some 45) (i := 3) (v := ?va3) rfl rfl (by kernel_rfl) (by kernel_rfl) (by kernel_rfl) (by kernel_rfl) (fun _ _ _ h => h) (Or.inl ⟨by rfl, ?ya3⟩) S0 ?ra3
    case ya3 => (intro V hSV; obtain ⟨d0, d1, d2⟩ := hSV; go_simp; try with_reducible rfl)
    simp only [Act.put, List.setIfInBounds_toArray, List.set_cons_zero, List.set_cons_succ]
    refine wpAnyG_take [10] (some 46) (i := 4) (v := ?va4) rfl rfl (by kernel_rfl) (by kernel_rfl) (by kernel_rfl) (by kernel_rfl) (fun _ _ _ h => h) (Or.inl ⟨by rfl, ?ya4⟩) S0 ?ra4
    case ya4 => (intro V hSV; obtain ⟨d0, d1, d2⟩ := hSV; go_simp; try with_reducible rfl)
    simp only [Act.put, List.setIfInBounds_toArray, List.set_cons_zero, List.set_cons_succ]
    have RC := RS w2.drew (CAT2.out _ (RW2.out.below X0.out))
    refine wpAnyG_one (i := 5) (by kernel_rfl) rfl (fun K hK => ?_)
    go_simp
    with_reducible refine RC.mono ?_
    rintro e w3 ⟨rfl, h3⟩
    have X3 : Hid (Below w2.heap.size w2 w3) := X0.out.trans h3
    refine hK.out _ _ (Or.inr (SS.out _ X3.out)) ?_
    clear hK K S0 RC RS h3
    try simp only [Act.put, List.setIfInBounds_toArray, List.set_cons_zero, List.set_cons_succ]
    have S0 : (fun V : World => V.cell? ⟨rb, 0, none⟩ = some (.int .i64 (N : Int)) ∧ V.cell? ⟨rb, 1, none⟩ = some (.int .i64 ((l : Int) - 1)) ∧ V.cell? ⟨g, o + j, none⟩ = some (.slice ra m rc)) w3 := SS.out _ X3.out
    refine wpAnyG_take [10] (some 41) (i := 6) (v := ?vb6) rfl rfl (by kernel_rfl) (by kernel_rfl) (by kernel_rfl) (by kernel_rfl) (fun _ _ _ h => h) (Or.inl ⟨by rfl, ?yb6⟩) S0 ?rb6
    case yb6 => (intro V hSV; obtain ⟨d0, d1, d2⟩ := hSV; go_simp; try with_reducible rfl)
    simp only [Act.put, List.setIfInBounds_toArray, List.set_cons_zero, List.set_cons_succ]
    refine wpAnyG_take [10] (some 48) (i := 7) (v := ?vb7) rfl rfl (by kernel_rfl) (by kernel_rfl) (by kernel_rfl) (by kernel_rfl) (fun _ _ _ h => h) (Or.inl ⟨by rfl, ?yb7⟩) S0 ?rb7
    case yb7 => (intro V hSV; obtain ⟨d0, d1, d2⟩ := hSV; go_simp; try with_reducible rfl)
    simp only [Act.put, List.setIfInBounds_toArray, List.set_cons_zero, List.set_cons_succ]
    refine wpAnyG_take [10] (some 49) (i := 8) (v := ?vb8) rfl rfl (by kernel_rfl) (by kernel_rfl) (by kernel_rfl) (by kernel_rfl) (fun _ _ _ h => h) (Or.inl ⟨by rfl, ?yb8⟩) S0 ?rb8
    case yb8 => (intro V hSV; obtain ⟨d0, d1, d2⟩ := hSV; go_simp; try with_reducible rfl)
    simp only [Act.put, List.setIfInBounds_toArray, List.set_cons_zero, List.set_cons_succ]
    refine wpAnyG_one (i := 9) (by kernel_rfl) rfl (fun K hK => ?_)
    go_simp
    refine hK.out _ _ (Or.inr S0) ?_
    clear hK K
    refine wpAnyG_one (i := 10) (by kernel_rfl) rfl (fun K hK => ?_)
    go_simp
    refine hK.out _ _ (Or.inl (by kernel_rfl)) ?_
    clear hK K
    refine wpAnyG_done (by kernel_rfl) ?_ _
    have KA3 : Hid (Fb w3 b N l) := KA2.out.next X3.out
    have KR3 : Hid (Bk w3 rb (fc N l) 27) := KR2.out.next X3.out
    have RW3 : Hid (Rws w3 (some ⟨g, o, none⟩) F) := RW2.out.below X3.out
    have Y3 : Hid (Below w.heap.size w w3) := Y2.out.trans (X3.out.mono Y2.out.size)
    clear KA2 KR2 RW2 Y2 X3 X0 S0 SS
    have c0 := KR3.out.cell 0
    have c1 := KR3.out.cell 1
    simp only [fc, List.getElem?_toArray, List.getElem?_cons_zero, List.getElem?_cons_succ] at c0 c1
    have LC := fun m => LA _ l (KA3.out.drewN m)
    have PC := fun m => PA _ l (KA3.out.drewN m)
    obtain ⟨z, hz⟩ : ∃ z, (l : Int) - 1 = z := ⟨_, rfl⟩
    simp only [hz] at LC c1
    go_wp2_with fail
    go_quiet (first
      | (go_at_call 16; exact Calls.quiet_of_same ((LC _).mono fun _ _ h => ⟨h.1, h.2.symm⟩))
      | (go_at_call 17; exact Calls.quiet_of_same ((PC _).mono fun _ _ h => ⟨h.1, h.2.symm⟩)))
    have KA4 : Hid (Fb (w3.drewN nq) b N l) := KA3.out.drewN _
    have KR4 : Hid (Bk (w3.drewN nq) rb (fc N l) 27) := KR3.out.drewN _
    have RW4 : Hid (Rws (w3.drewN nq) (some ⟨g, o, none⟩) F) := RW3.out.drewN _
    have Y4 : Hid (Below w.heap.size w (w3.drewN nq)) := dn Y3.out _
    clear KA3 KR3 RW3 Y3 LC PC c0 c1 hz
    generalize w3.drewN nq = w4 at *
    clear nq
    have c0 := CAT1.out w4 RW4.out
    have OC := OF w4 KA4.out (CAT2.out w4 RW4.out)
    have NC := NX w4 KA4.out (CAT2.out w4 RW4.out)
    by_cases hp : (j : Int) % 2 = 0
    · skip
      go_upto_region 15 with fail
      go_upto_region 17 with (go_at_call 18; (with_reducible refine OC.mono ?_); rintro e w5 ⟨rfl, k5, g5⟩)
      have KA5 : Hid (Fb w5 b N l2) := k5
      have KR5 : Hid (Bk w5 rb (fc N l) 27) := KR4.out.gb g5 (fun e => hne e.symm)
      have RW5 : Hid (Rws w5 (some ⟨g, o, none⟩) F) := RW4.out.gb KA4.out g5
      have Y5 : Hid (Below w.heap.size w w5) := g5.up Y4.out hwb Y4.out.size
      clear KA4 KR4 RW4 Y4 OC NC OF NX AC k5 g5 c0
      have hne3 : ¬ rb = b := fun e => hne e.symm
      have hz5b : b < w5.heap.size := KA5.out.lt
      have hz5r : rb < w5.heap.size := KR5.out.lt
      go_cut [14, 15, 16] from 94 to 103 (fun x y s wc => ∃ nb, x = .pointer (some ⟨nb, 0, none⟩) ∧ y = .int .i64 (k : Int) ∧ s = .bool is ∧ Bk wc nb (fc N l2) 27 ∧ w5.heap.size ≤ nb ∧ Below w5.heap.size w5 wc)
      case first =>
        have SS : Hid (∀ V, Below w5.heap.size w5 V → V.cell? ⟨rb, 0, none⟩ = some (.int .i64 (N : Int)) ∧ V.cell? ⟨rb, 1, none⟩ = some (.int .i64 ((l : Int) - 1)) ∧ V.cell? ⟨g, o + j, none⟩ = some (.slice ra m rc)) := show _ from fun V h => ⟨(KR5.out.next h).cell 0, (KR5.out.next h).cell 1, CAT1.out V (RW5.out.below h)⟩
        have RDX : Hid (∀ V, Below w5.heap.size w5 V → Rd V ra vrl) := show _ from fun V h => CAT2.out V (RW5.out.below h)
        refine wp_region_G (fun V : World => V.cell? ⟨rb, 0, none⟩ = some (.int .i64 (N : Int)) ∧ V.cell? ⟨rb, 1, none⟩ = some (.int .i64 ((l : Int) - 1)) ∧ V.cell? ⟨g, o + j, none⟩ = some (.slice ra m rc)) 13 (by kernel_rfl) ?_
        have X : Hid (Below w5.heap.size w5 w5.drew) := (Below.refl _ _).drew
        generalize w5.drew = V0 at *
        have S0 : (fun V : World => V.cell? ⟨rb, 0, none⟩ = some (.int .i64 (N : Int)) ∧ V.cell? ⟨rb, 1, none⟩ = some (.int .i64 ((l : Int) - 1)) ∧ V.cell? ⟨g, o + j, none⟩ = some (.slice ra m rc)) V0 := SS.out V0 X.out
        clear KA5 KR5 RW5 Y5
        refine wpAnyG_take [13] (some 95) (i := 0) (v := ?ve0) rfl rfl (by kernel_rfl) (by kernel_rfl) (by kernel_rfl) (by kernel_rfl) (fun _ _ _ h => h) (Or.inl ⟨by rfl, ?ye0⟩) S0 ?re0
        case ye0 => (intro V hSV; obtain ⟨d0, d1, d2⟩ := hSV; go_simp; try with_reducible rfl)
        simp only [Act.put, List.setIfInBounds_toArray, List.set_cons_zero, List.set_cons_succ]
        refine wpAnyG_take [13] (some 96) (i := 1) (v := ?ve1) rfl rfl (by kernel_rfl) (by kernel_rfl) (by kernel_rfl) (by kernel_rfl) (fun _ _ _ h => h) (Or.inl ⟨by rfl, ?ye1⟩) S0 ?re1
        case ye1 => (intro V hSV; obtain ⟨d0, d1, d2⟩ := hSV; go_simp; try with_reducible rfl)
        simp only [Act.put, List.setIfInBounds_toArray, List.set_cons_zero, List.set_cons_succ]
        refine wpAnyG_take [13] (some 97) (i := 2) (v := ?ve2) rfl rfl (by kernel_rfl) (by kernel_rfl) (by kernel_rfl) (by kernel_rfl) (fun _ _ _ h => h) (Or.inl ⟨by rfl, ?ye2⟩) S0 ?re2
        case ye2 => (intro V hSV; obtain ⟨d0, d1, d2⟩ := hSV; go_simp; try with_reducible rfl)
        simp only [Act.put, List.setIfInBounds_toArray, List.set_cons_zero, List.set_cons_succ]
        refine wpAnyG_take [13] (some 98) (i := 3) (v := ?ve3) rfl rfl (by kernel_rfl) (by kernel_rfl) (by kernel_rfl) (by kernel_rfl) (fun _ _ _ h => h) (Or.inl ⟨by rfl, ?ye3⟩) S0 ?re3
        case ye3 => (intro V hSV; obtain ⟨d0, d1, d2⟩ := hSV; go_simp; try with_reducible rfl)
        simp only [Act.put, List.setIfInBounds_toArray, List.set_cons_zero, List.set_cons_succ]
        refine wpAnyG_take [13] (some 99) (i := 4) (v := ?ve4) rfl rfl (by kernel_rfl) (by kernel_rfl) (by kernel_rfl) (by kernel_rfl) (fun _ _ _ h => h) (Or.inl ⟨by rfl, ?ye4⟩) S0 ?re4
        case ye4 => (intro V hSV; obtain ⟨d0, d1, d2⟩ := hSV; go_simp; try with_reducible rfl)
        simp only [Act.put, List.setIfInBounds_toArray, List.set_cons_zero, List.set_cons_succ]
        clear S0
        refine wpAnyG_any [5, 10] (by kernel_rfl) (by rfl) ?_
        intro i hi
        rcases mem2 hi with rfl | rfl
        · clear hi
          refine wpOpG (i := 5) rfl (fun K hK => ?_)
          go_simp
          with_reducible refine (RX V0 (RDX.out _ X.out)).mono ?_
          rintro e VX ⟨rfl, hbx⟩
          have X2 : Hid (Below w5.heap.size w5 VX) := X.out.trans (hbx.mono X.out.size)
          refine hK.out _ _ (Or.inr (SS.out _ X2.out)) ?_
          clear hK K hbx X
          have X := X2
          clear X2
          generalize VX = V1 at *
          try simp only [Act.put, List.setIfInBounds_toArray, List.set_cons_zero, List.set_cons_succ]
          have S0 : (fun V : World => V.cell? ⟨rb, 0, none⟩ = some (.int .i64 (N : Int)) ∧ V.cell? ⟨rb, 1, none⟩ = some (.int .i64 ((l : Int) - 1)) ∧ V.cell? ⟨g, o + j, none⟩ = some (.slice ra m rc)) V1 := SS.out _ X.out
          refine wpAnyG_take [13] (some 94) (i := 6) (v := ?vep6) rfl rfl (by kernel_rfl) (by kernel_rfl) (by kernel_rfl) (by kernel_rfl) (fun _ _ _ h => h) (Or.inl ⟨by rfl, ?yep6⟩) S0 ?rep6
          case yep6 => (intro V hSV; obtain ⟨d0, d1, d2⟩ := hSV; go_simp; try with_reducible rfl)
          simp only [Act.put, List.setIfInBounds_toArray, List.set_cons_zero, List.set_cons_succ]
          refine wpAnyG_take [13] (some 101) (i := 7) (v := ?vep7) rfl rfl (by kernel_rfl) (by kernel_rfl) (by kernel_rfl) (by kernel_rfl) (fun _ _ _ h => h) (Or.inl ⟨by rfl, ?yep7⟩) S0 ?rep7
          case yep7 => (intro V hSV; obtain ⟨d0, d1, d2⟩ := hSV; go_simp; try with_reducible rfl)
          simp only [Act.put, List.setIfInBounds_toArray, List.set_cons_zero, List.set_cons_succ]
          refine wpAnyG_take [13] (some 102) (i := 8) (v := ?vep8) rfl rfl (by kernel_rfl) (by kernel_rfl) (by kernel_rfl) (by kernel_rfl) (fun _ _ _ h => h) (Or.inl ⟨by rfl, ?yep8⟩) S0 ?rep8
          case yep8 => (intro V hSV; obtain ⟨d0, d1, d2⟩ := hSV; go_simp; try with_reducible rfl)
          simp only [Act.put, List.setIfInBounds_toArray, List.set_cons_zero, List.set_cons_succ]
          refine wpAnyG_take [13] (some 103) (i := 9) (v := ?vep9) rfl rfl (by kernel_rfl) (by kernel_rfl) (by kernel_rfl) (by kernel_rfl) (fun _ _ _ h => h) (Or.inl ⟨by rfl, ?yep9⟩) S0 ?rep9
          case yep9 => (intro V hSV; obtain ⟨d0, d1, d2⟩ := hSV; go_simp; try with_reducible rfl)
          simp only [Act.put, List.setIfInBounds_toArray, List.set_cons_zero, List.set_cons_succ]
          clear S0
          refine wpAnyG_one (i := 10) (by kernel_rfl) rfl (fun K hK => ?_)
          go_simp
          have X2 : Hid (Below w5.heap.size w5 (V1.alloc (.cells #[.int .i64 0, .int .i64 0] 27))) := X.out.alloc X.out.size _
          have KN : Hid (Bk (V1.alloc (.cells #[.int .i64 0, .int .i64 0] 27)) V1.heap.size #[.int .i64 0, .int .i64 0] 27) := Bk.new _ _ _
          have ln : w5.heap.size ≤ V1.heap.size := X.out.size
          refine hK.out _ _ (Or.inr (SS.out _ X2.out)) ?_
          clear hK K X
          have X := X2
          clear X2
          generalize V1.alloc (.cells #[.int .i64 0, .int .i64 0] 27) = V2 at *
          generalize V1.heap.size = nb at *
          try simp only [Act.put, List.setIfInBounds_toArray, List.set_cons_zero, List.set_cons_succ]
          have A0 : V2.cell? ⟨nb, 0, none⟩ = some (.int .i64 0) := KN.out.cell 0
          have A1 : V2.cell? ⟨nb, 1, none⟩ = some (.int .i64 0) := KN.out.cell 1
          have Z0 : V2.frozen? ⟨nb, 0, none⟩ = false := KN.out.free 0
          have Z1 : V2.frozen? ⟨nb, 1, none⟩ = false := KN.out.free 1
          refine wpAnyG_one (i := 11) (by kernel_rfl) rfl (fun K hK => ?_)
          go_simp
          have WN : Hid (Bk ((V2.setCell ⟨nb, 0, none⟩ (.int .i64 (N : Int))).setCell ⟨nb, 1, none⟩ (.int .i64 ((l2 : Int) - 1))) nb (fc N l2) 27) := two_at KN.out
          have WB : Hid (Below w5.heap.size w5 ((V2.setCell ⟨nb, 0, none⟩ (.int .i64 (N : Int))).setCell ⟨nb, 1, none⟩ (.int .i64 ((l2 : Int) - 1)))) := below_two X.out ln _ _
          refine hK.out _ _ (Or.inr (SS.out _ WB.out)) ?_
          clear hK K A0 A1 Z0 Z1 X KN
          generalize ((V2.setCell ⟨nb, 0, none⟩ (.int .i64 (N : Int))).setCell ⟨nb, 1, none⟩ (.int .i64 ((l2 : Int) - 1))) = w6 at *
          refine wpAnyG_one (i := 12) (by kernel_rfl) rfl (fun K hK => ?_)
          go_simp
          refine hK.out _ _ (Or.inr (SS.out _ WB.out)) ?_
          clear hK K
          refine wpAnyG_one (i := 13) (by kernel_rfl) rfl (fun K hK => ?_)
          go_simp
          refine hK.out _ _ (Or.inl (by kernel_rfl)) ?_
          clear hK K
          refine wpAnyG_done (by kernel_rfl) ?_ _
          go_wp2
          go_meet
          exact ⟨nb, rfl, rfl, rfl, WN.out, ln, WB.out⟩
        · clear hi
          refine wpOpG (i := 10) rfl (fun K hK => ?_)
          go_simp
          have X2 : Hid (Below w5.heap.size w5 (V0.alloc (.cells #[.int .i64 0, .int .i64 0] 27))) := X.out.alloc X.out.size _
          have KN : Hid (Bk (V0.alloc (.cells #[.int .i64 0, .int .i64 0] 27)) V0.heap.size #[.int .i64 0, .int .i64 0] 27) := Bk.new _ _ _
          have ln : w5.heap.size ≤ V0.heap.size := X.out.size
          refine hK.out _ _ (Or.inr (SS.out _ X2.out)) ?_
          clear hK K X
          have X := X2
          clear X2
          generalize V0.alloc (.cells #[.int .i64 0, .int .i64 0] 27) = V1 at *
          generalize V0.heap.size = nb at *
          try simp only [Act.put, List.setIfInBounds_toArray, List.set_cons_zero, List.set_cons_succ]
          refine wpAnyG_one (i := 5) (by kernel_rfl) rfl (fun K hK => ?_)
          go_simp
          with_reducible refine (RX V1 (RDX.out _ X.out)).mono ?_
          rintro e VX ⟨rfl, hbx⟩
          have X2 : Hid (Below w5.heap.size w5 VX) := X.out.trans (hbx.mono X.out.size)
          have KN2 : Hid (Bk VX nb #[.int .i64 0, .int .i64 0] 27) := KN.out.next hbx
          refine hK.out _ _ (Or.inr (SS.out _ X2.out)) ?_
          clear hK K hbx X KN
          have X := X2
          clear X2
          have KN := KN2
          clear KN2
          generalize VX = V2 at *
          try simp only [Act.put, List.setIfInBounds_toArray, List.set_cons_zero, List.set_cons_succ]
          have S0 : (fun V : World => V.cell? ⟨rb, 0, none⟩ = some (.int .i64 (N : Int)) ∧ V.cell? ⟨rb, 1, none⟩ = some (.int .i64 ((l : Int) - 1)) ∧ V.cell? ⟨g, o + j, none⟩ = some (.slice ra m rc)) V2 := SS.out _ X.out
          refine wpAnyG_take [13] (some 94) (i := 6) (v := ?veq6) rfl rfl (by kernel_rfl) (by kernel_rfl) (by kernel_rfl) (by kernel_rfl) (fun _ _ _ h => h) (Or.inl ⟨by rfl, ?yeq6⟩) S0 ?req6
          case yeq6 => (intro V hSV; obtain ⟨d0, d1, d2⟩ := hSV; go_simp; try with_reducible rfl)
          simp only [Act.put, List.setIfInBounds_toArray, List.set_cons_zero, List.set_cons_succ]
          refine wpAnyG_take [13] (some 101) (i := 7) (v := ?veq7) rfl rfl (by kernel_rfl) (by kernel_rfl) (by kernel_rfl) (by kernel_rfl) (fun _ _ _ h => h) (Or.inl ⟨by rfl, ?yeq7⟩) S0 ?req7
          case yeq7 => (intro V hSV; obtain ⟨d0, d1, d2⟩ := hSV; go_simp; try with_reducible rfl)
          simp only [Act.put, List.setIfInBounds_toArray, List.set_cons_zero, List.set_cons_succ]
          refine wpAnyG_take [13] (some 102) (i := 8) (v := ?veq8) rfl rfl (by kernel_rfl) (by kernel_rfl) (by kernel_rfl) (by kernel_rfl) (fun _ _ _ h => h) (Or.inl ⟨by rfl, ?yeq8⟩) S0 ?req8
          case yeq8 => (intro V hSV; obtain ⟨d0, d1, d2⟩ := hSV; go_simp; try with_reducible rfl)
          simp only [Act.put, List.setIfInBounds_toArray, List.set_cons_zero, List.set_cons_succ]
          refine wpAnyG_take [13] (some 103) (i := 9) (v := ?veq9) rfl rfl (by kernel_rfl) (by kernel_rfl) (by kernel_rfl) (by kernel_rfl) (fun _ _ _ h => h) (Or.inl ⟨by rfl, ?yeq9⟩) S0 ?req9
          case yeq9 => (intro V hSV; obtain ⟨d0, d1, d2⟩ := hSV; go_simp; try with_reducible rfl)
          simp only [Act.put, List.setIfInBounds_toArray, List.set_cons_zero, List.set_cons_succ]
          clear S0
          have A0 : V2.cell? ⟨nb, 0, none⟩ = some (.int .i64 0) := KN.out.cell 0
          have A1 : V2.cell? ⟨nb, 1, none⟩ = some (.int .i64 0) := KN.out.cell 1
          have Z0 : V2.frozen? ⟨nb, 0, none⟩ = false := KN.out.free 0
          have Z1 : V2.frozen? ⟨nb, 1, none⟩ = false := KN.out.free 1
          refine wpAnyG_one (i := 11) (by kernel_rfl) rfl (fun K hK => ?_)
          go_simp
          have WN : Hid (Bk ((V2.setCell ⟨nb, 0, none⟩ (.int .i64 (N : Int))).setCell ⟨nb, 1, none⟩ (.int .i64 ((l2 : Int) - 1))) nb (fc N l2) 27) := two_at KN.out
          have WB : Hid (Below w5.heap.size w5 ((V2.setCell ⟨nb, 0, none⟩ (.int .i64 (N : Int))).setCell ⟨nb, 1, none⟩ (.int .i64 ((l2 : Int) - 1)))) := below_two X.out ln _ _
          refine hK.out _ _ (Or.inr (SS.out _ WB.out)) ?_
          clear hK K A0 A1 Z0 Z1 X KN
          generalize ((V2.setCell ⟨nb, 0, none⟩ (.int .i64 (N : Int))).setCell ⟨nb, 1, none⟩ (.int .i64 ((l2 : Int) - 1))) = w6 at *
          refine wpAnyG_one (i := 12) (by kernel_rfl) rfl (fun K hK => ?_)
          go_simp
          refine hK.out _ _ (Or.inr (SS.out _ WB.out)) ?_
          clear hK K
          refine wpAnyG_one (i := 13) (by kernel_rfl) rfl (fun K hK => ?_)
          go_simp
          refine hK.out _ _ (Or.inl (by kernel_rfl)) ?_
          clear hK K
          refine wpAnyG_done (by kernel_rfl) ?_ _
          go_wp2
          go_meet
          exact ⟨nb, rfl, rfl, rfl, WN.out, ln, WB.out⟩
      case rest =>
      obtain ⟨nb, rfl, rfl, rfl, m1, l1, m2⟩ := hcut
      have KR6 := KR5.out.below m2 hz5r
      have Y0 := m1.cell 0
      have Y1 := m1.cell 1
      have T0 := KR6.cell 0
      have T1 := KR6.cell 1
      have Z0 := KR6.free 0
      have Z1 := KR6.free 1
      simp only [List.getElem?_toArray, List.getElem?_cons_zero, List.getElem?_cons_succ] at Y0 Y1 T0 T1
      have N1 : Hid (Fb ((wc.setCell ⟨rb, 0, none⟩ (.int .i64 (N : Int))).setCell ⟨rb, 1, none⟩ (.int .i64 ((l2 : Int) - 1))) b N l2) := ((KA5.out.below m2 hz5b).far hne).far hne
      have N2 : Hid (Bk ((wc.setCell ⟨rb, 0, none⟩ (.int .i64 (N : Int))).setCell ⟨rb, 1, none⟩ (.int .i64 ((l2 : Int) - 1))) rb (fc N l2) 27) := two_at KR6
      have N3 : Hid (Rws ((wc.setCell ⟨rb, 0, none⟩ (.int .i64 (N : Int))).setCell ⟨rb, 1, none⟩ (.int .i64 ((l2 : Int) - 1))) (some ⟨g, o, none⟩) F) := (RW5.out.below m2).gbr KR6 (((Gb.refl rb wc).set _).set _)
      have N4 : Hid (Below w.heap.size w ((wc.setCell ⟨rb, 0, none⟩ (.int .i64 (N : Int))).setCell ⟨rb, 1, none⟩ (.int .i64 ((l2 : Int) - 1)))) := below_two (Y5.out.trans (m2.mono Y5.out.size)) hwr _ _
      go_upto_region 19 with fail
      clear Y0 Y1 T0 T1 Z0 Z1 m1 m2 KA5 KR5 RW5 Y5 KR6 CAT1 CAT2
      generalize ((wc.setCell ⟨rb, 0, none⟩ (.int .i64 (N : Int))).setCell ⟨rb, 1, none⟩ (.int .i64 ((l2 : Int) - 1))) = w7 at *
      have LC := fun m => LA _ l2 (N1.out.drewN m)
      have c1 := N2.out.cell 1
      simp only [List.getElem?_toArray, List.getElem?_cons_zero, List.getElem?_cons_succ] at c1
      clear LA PA
      obtain ⟨z, hz⟩ : ∃ z, (l2 : Int) - 1 = z := ⟨_, rfl⟩
      simp only [hz] at LC c1
      clear hz
      go_wp2_with fail
      go_quiet ((go_at_call 16; exact Calls.quiet_of_same ((LC _).mono fun _ _ h => ⟨h.1, h.2.symm⟩)))
      go_wp2
      go_roundw
      case rel => exact ⟨j + 1, l2, by omega, by go_num, hl2, N1.out.drewN _, N2.out.drewN _, N3.out.drewN _, dn N4.out _⟩
      case measure => simp [RowKit.intOf]; omega
    · skip
      go_upto_region 16 with fail
      go_upto_region 17 with (first
        | (go_at_call 14; (with_reducible refine (AC _).mono ?_); rintro e w' ⟨rfl, rfl⟩)
        | (go_at_call 19; (with_reducible refine NC.mono ?_); rintro e w5 ⟨rfl, k5, g5⟩))
      have KA5 : Hid (Fb w5 b N l2) := k5
      have KR5 : Hid (Bk w5 rb (fc N l) 27) := KR4.out.gb g5 (fun e => hne e.symm)
      have RW5 : Hid (Rws w5 (some ⟨g, o, none⟩) F) := RW4.out.gb KA4.out g5
      have Y5 : Hid (Below w.heap.size w w5) := g5.up Y4.out hwb Y4.out.size
      clear KA4 KR4 RW4 Y4 OC NC OF NX AC k5 g5 c0
      have hne3 : ¬ rb = b := fun e => hne e.symm
      have hz5b : b < w5.heap.size := KA5.out.lt
      have hz5r : rb < w5.heap.size := KR5.out.lt
      go_cut [14, 15, 16] from 94 to 103 (fun x y s wc => ∃ nb, x = .pointer (some ⟨nb, 0, none⟩) ∧ y = .int .i64 (k : Int) ∧ s = .bool is ∧ Bk wc nb (fc N l2) 27 ∧ w5.heap.size ≤ nb ∧ Below w5.heap.size w5 wc)
      case first =>
        have SS : Hid (∀ V, Below w5.heap.size w5 V → V.cell? ⟨rb, 0, none⟩ = some (.int .i64 (N : Int)) ∧ V.cell? ⟨rb, 1, none⟩ = some (.int .i64 ((l : Int) - 1)) ∧ V.cell? ⟨g, o + j, none⟩ = some (.slice ra m rc)) := show _ from fun V h => ⟨(KR5.out.next h).cell 0, (KR5.out.next h).cell 1, CAT1.out V (RW5.out.below h)⟩
        have RDX : Hid (∀ V, Below w5.heap.size w5 V → Rd V ra vrl) := show _ from fun V h => CAT2.out V (RW5.out.below h)
        refine wp_region_G (fun V : World => V.cell? ⟨rb, 0, none⟩ = some (.int .i64 (N : Int)) ∧ V.cell? ⟨rb, 1, none⟩ = some (.int .i64 ((l : Int) - 1)) ∧ V.cell? ⟨g, o + j, none⟩ = some (.slice ra m rc)) 13 (by kernel_rfl) ?_
        have X : Hid (Below w5.heap.size w5 w5.drew) := (Below.refl _ _).drew
        generalize w5.drew = V0 at *
        have S0 : (fun V : World => V.cell? ⟨rb, 0, none⟩ = some (.int .i64 (N : Int)) ∧ V.cell? ⟨rb, 1, none⟩ = some (.int .i64 ((l : Int) - 1)) ∧ V.cell? ⟨g, o + j, none⟩ = some (.slice ra m rc)) V0 := SS.out V0 X.out
        clear KA5 KR5 RW5 Y5
        refine wpAnyG_take [13] (some 95) (i := 0) (v := ?vo0) rfl rfl (by kernel_rfl) (by kernel_rfl) (by kernel_rfl) (by kernel_rfl) (fun _ _ _ h => h) (Or.inl ⟨by rfl, ?yo0⟩) S0 ?ro0
        case yo0 => (intro V hSV; obtain ⟨d0, d1, d2⟩ := hSV; go_simp; try with_reducible rfl)
        simp only [Act.put, List.setIfInBounds_toArray, List.set_cons_zero, List.set_cons_succ]
        refine wpAnyG_take [13] (some 96) (i := 1) (v := ?vo1) rfl rfl (by kernel_rfl) (by kernel_rfl) (by kernel_rfl) (by kernel_rfl) (fun _ _ _ h => h) (Or.inl ⟨by rfl, ?yo1⟩) S0 ?ro1
        case yo1 => (intro V hSV; obtain ⟨d0, d1, d2⟩ := hSV; go_simp; try with_reducible rfl)
        simp only [Act.put, List.setIfInBounds_toArray, List.set_cons_zero, List.set_cons_succ]
        refine wpAnyG_take [13] (some 97) (i := 2) (v := ?vo2) rfl rfl (by kernel_rfl) (by kernel_rfl) (by kernel_rfl) (by kernel_rfl) (fun _ _ _ h => h) (Or.inl ⟨by rfl, ?yo2⟩) S0 ?ro2
        case yo2 => (intro V hSV; obtain ⟨d0, d1, d2⟩ := hSV; go_simp; try with_reducible rfl)
        simp only [Act.put, List.setIfInBounds_toArray, List.set_cons_zero, List.set_cons_succ]
        refine wpAnyG_take [13] (some 98) (i := 3) (v := ?vo3) rfl rfl (by kernel_rfl) (by kernel_rfl) (by kernel_rfl) (by kernel_rfl) (fun _ _ _ h => h) (Or.inl ⟨by rfl, ?yo3⟩) S0 ?ro3
        case yo3 => (intro V hSV; obtain ⟨d0, d1, d2⟩ := hSV; go_simp; try with_reducible rfl)
        simp only [Act.put, List.setIfInBounds_toArray, List.set_cons_zero, List.set_cons_succ]
        refine wpAnyG_take [13] (some 99) (i := 4) (v := ?vo4) rfl rfl (by kernel_rfl) (by kernel_rfl) (by kernel_rfl) (by kernel_rfl) (fun _ _ _ h => h) (Or.inl ⟨by rfl, ?yo4⟩) S0 ?ro4
        case yo4 => (intro V hSV; obtain ⟨d0, d1, d2⟩ := hSV; go_simp; try with_reducible rfl)
        simp only [Act.put, List.setIfInBounds_toArray, List.set_cons_zero, List.set_cons_succ]
        clear S0
        refine wpAnyG_any [5, 10] (by kernel_rfl) (by rfl) ?_
        intro i hi
        rcases mem2 hi with rfl | rfl
        · clear hi
          refine wpOpG (i := 5) rfl (fun K hK => ?_)
          go_simp
          with_reducible refine (RX V0 (RDX.out _ X.out)).mono ?_
          rintro e VX ⟨rfl, hbx⟩
          have X2 : Hid (Below w5.heap.size w5 VX) := X.out.trans (hbx.mono X.out.size)
          refine hK.out _ _ (Or.inr (SS.out _ X2.out)) ?_
          clear hK K hbx X
          have X := X2
          clear X2
          generalize VX = V1 at *
          try simp only [Act.put, List.setIfInBounds_toArray, List.set_cons_zero, List.set_cons_succ]
          have S0 : (fun V : World => V.cell? ⟨rb, 0, none⟩ = some (.int .i64 (N : Int)) ∧ V.cell? ⟨rb, 1, none⟩ = some (.int .i64 ((l : Int) - 1)) ∧ V.cell? ⟨g, o + j, none⟩ = some (.slice ra m rc)) V1 := SS.out _ X.out
          refine wpAnyG_take [13] (some 94) (i := 6) (v := ?vop6) rfl rfl (by kernel_rfl) (by kernel_rfl) (by kernel_rfl) (by kernel_rfl) (fun _ _ _ h => h) (Or.inl ⟨by rfl, ?yop6⟩) S0 ?rop6
          case yop6 => (intro V hSV; obtain ⟨d0, d1, d2⟩ := hSV; go_simp; try with_reducible rfl)
          simp only [Act.put, List.setIfInBounds_toArray, List.set_cons_zero, List.set_cons_succ]
          refine wpAnyG_take [13] (some 101) (i := 7) (v := ?vop7) rfl rfl (by kernel_rfl) (by kernel_rfl) (by kernel_rfl) (by kernel_rfl) (fun _ _ _ h => h) (Or.inl ⟨by rfl, ?yop7⟩) S0 ?rop7
          case yop7 => (intro V hSV; obtain ⟨d0, d1, d2⟩ := hSV; go_simp; try with_reducible rfl)
          simp only [Act.put, List.setIfInBounds_toArray, List.set_cons_zero, List.set_cons_succ]
          refine wpAnyG_take [13] (some 102) (i := 8) (v := ?vop8) rfl rfl (by kernel_rfl) (by kernel_rfl) (by kernel_rfl) (by kernel_rfl) (fun _ _ _ h => h) (Or.inl ⟨by rfl, ?yop8⟩) S0 ?rop8
          case yop8 => (intro V hSV; obtain ⟨d0, d1, d2⟩ := hSV; go_simp; try with_reducible rfl)
          simp only [Act.put, List.setIfInBounds_toArray, List.set_cons_zero, List.set_cons_succ]
          refine wpAnyG_take [13] (some 103) (i := 9) (v := ?vop9) rfl rfl (by kernel_rfl) (by kernel_rfl) (by kernel_rfl) (by kernel_rfl) (fun _ _ _ h => h) (Or.inl ⟨by rfl, ?yop9⟩) S0 ?rop9
          case yop9 => (intro V hSV; obtain ⟨d0, d1, d2⟩ := hSV; go_simp; try with_reducible rfl)
          simp only [Act.put, List.setIfInBounds_toArray, List.set_cons_zero, List.set_cons_succ]
          clear S0
          refine wpAnyG_one (i := 10) (by kernel_rfl) rfl (fun K hK => ?_)
          go_simp
          have X2 : Hid (Below w5.heap.size w5 (V1.alloc (.cells #[.int .i64 0, .int .i64 0] 27))) := X.out.alloc X.out.size _
          have KN : Hid (Bk (V1.alloc (.cells #[.int .i64 0, .int .i64 0] 27)) V1.heap.size #[.int .i64 0, .int .i64 0] 27) := Bk.new _ _ _
          have ln : w5.heap.size ≤ V1.heap.size := X.out.size
          refine hK.out _ _ (Or.inr (SS.out _ X2.out)) ?_
          clear hK K X
          have X := X2
          clear X2
          generalize V1.alloc (.cells #[.int .i64 0, .int .i64 0] 27) = V2 at *
          generalize V1.heap.size = nb at *
          try simp only [Act.put, List.setIfInBounds_toArray, List.set_cons_zero, List.set_cons_succ]
          have A0 : V2.cell? ⟨nb, 0, none⟩ = some (.int .i64 0) := KN.out.cell 0
          have A1 : V2.cell? ⟨nb, 1, none⟩ = some (.int .i64 0) := KN.out.cell 1
          have Z0 : V2.frozen? ⟨nb, 0, none⟩ = false := KN.out.free 0
          have Z1 : V2.frozen? ⟨nb, 1, none⟩ = false := KN.out.free 1
          refine wpAnyG_one (i := 11) (by kernel_rfl) rfl (fun K hK => ?_)
          go_simp
          have WN : Hid (Bk ((V2.setCell ⟨nb, 0, none⟩ (.int .i64 (N : Int))).setCell ⟨nb, 1, none⟩ (.int .i64 ((l2 : Int) - 1))) nb (fc N l2) 27) := two_at KN.out
          have WB : Hid (Below w5.heap.size w5 ((V2.setCell ⟨nb, 0, none⟩ (.int .i64 (N : Int))).setCell ⟨nb, 1, none⟩ (.int .i64 ((l2 : Int) - 1)))) := below_two X.out ln _ _
          refine hK.out _ _ (Or.inr (SS.out _ WB.out)) ?_
          clear hK K A0 A1 Z0 Z1 X KN
          generalize ((V2.setCell ⟨nb, 0, none⟩ (.int .i64 (N : Int))).setCell ⟨nb, 1, none⟩ (.int .i64 ((l2 : Int) - 1))) = w6 at *
          refine wpAnyG_one (i := 12) (by kernel_rfl) rfl (fun K hK => ?_)
          go_simp
          refine hK.out _ _ (Or.inr (SS.out _ WB.out)) ?_
          clear hK K
          refine wpAnyG_one (i := 13) (by kernel_rfl) rfl (fun K hK => ?_)
          go_simp
          refine hK.out _ _ (Or.inl (by kernel_rfl)) ?_
          clear hK K
          refine wpAnyG_done (by kernel_rfl) ?_ _
          go_wp2
          go_meet
          exact ⟨nb, rfl, rfl, rfl, WN.out, ln, WB.out⟩
        · clear hi
          refine wpOpG (i := 10) rfl (fun K hK => ?_)
          go_simp
          have X2 : Hid (Below w5.heap.size w5 (V0.alloc (.cells #[.int .i64 0, .int .i64 0] 27))) := X.out.alloc X.out.size _
          have KN : Hid (Bk (V0.alloc (.cells #[.int .i64 0, .int .i64 0] 27)) V0.heap.size #[.int .i64 0, .int .i64 0] 27) := Bk.new _ _ _
          have ln : w5.heap.size ≤ V0.heap.size := X.out.size
          refine hK.out _ _ (Or.inr (SS.out _ X2.out)) ?_
          clear hK K X
          have X := X2
          clear X2
          generalize V0.alloc (.cells #[.int .i64 0, .int .i64 0] 27) = V1 at *
          generalize V0.heap.size = nb at *
          try simp only [Act.put, List.setIfInBounds_toArray, List.set_cons_zero, List.set_cons_succ]
          refine wpAnyG_one (i := 5) (by kernel_rfl) rfl (fun K hK => ?_)
          go_simp
          with_reducible refine (RX V1 (RDX.out _ X.out)).mono ?_
          rintro e VX ⟨rfl, hbx⟩
          have X2 : Hid (Below w5.heap.size w5 VX) := X.out.trans (hbx.mono X.out.size)
          have KN2 : Hid (Bk VX nb #[.int .i64 0, .int .i64 0] 27) := KN.out.next hbx
          refine hK.out _ _ (Or.inr (SS.out _ X2.out)) ?_
          clear hK K hbx X KN
          have X := X2
          clear X2
          have KN := KN2
          clear KN2
          generalize VX = V2 at *
          try simp only [Act.put, List.setIfInBounds_toArray, List.set_cons_zero, List.set_cons_succ]
          have S0 : (fun V : World => V.cell? ⟨rb, 0, none⟩ = some (.int .i64 (N : Int)) ∧ V.cell? ⟨rb, 1, none⟩ = some (.int .i64 ((l : Int) - 1)) ∧ V.cell? ⟨g, o + j, none⟩ = some (.slice ra m rc)) V2 := SS.out _ X.out
          refine wpAnyG_take [13] (some 94) (i := 6) (v := ?voq6) rfl rfl (by kernel_rfl) (by kernel_rfl) (by kernel_rfl) (by kernel_rfl) (fun _ _ _ h => h) (Or.inl ⟨by rfl, ?yoq6⟩) S0 ?roq6
          case yoq6 => (intro V hSV; obtain ⟨d0, d1, d2⟩ := hSV; go_simp; try with_reducible rfl)
          simp only [Act.put, List.setIfInBounds_toArray, List.set_cons_zero, List.set_cons_succ]
          refine wpAnyG_take [13] (some 101) (i := 7) (v := ?voq7) rfl rfl (by kernel_rfl) (by kernel_rfl) (by kernel_rfl) (by kernel_rfl) (fun _ _ _ h => h) (Or.inl ⟨by rfl, ?yoq7⟩) S0 ?roq7
          case yoq7 => (intro V hSV; obtain ⟨d0, d1, d2⟩ := hSV; go_simp; try with_reducible rfl)
          simp only [Act.put, List.setIfInBounds_toArray, List.set_cons_zero, List.set_cons_succ]
          refine wpAnyG_take [13] (some 102) (i := 8) (v := ?voq8) rfl rfl (by kernel_rfl) (by kernel_rfl) (by kernel_rfl) (by kernel_rfl) (fun _ _ _ h => h) (Or.inl ⟨by rfl, ?yoq8⟩) S0 ?roq8
          case yoq8 => (intro V hSV; obtain ⟨d0, d1, d2⟩ := hSV; go_simp; try with_reducible rfl)
          simp only [Act.put, List.setIfInBounds_toArray, List.set_cons_zero, List.set_cons_succ]
          refine wpAnyG_take [13] (some 103) (i := 9) (v := ?voq9) rfl rfl (by kernel_rfl) (by kernel_rfl) (by kernel_rfl) (by kernel_rfl) (fun _ _ _ h => h) (Or.inl ⟨by rfl, ?yoq9⟩) S0 ?roq9
          case yoq9 => (intro V hSV; obtain ⟨d0, d1, d2⟩ := hSV; go_simp; try with_reducible rfl)
          simp only [Act.put, List.setIfInBounds_toArray, List.set_cons_zero, List.set_cons_succ]
          clear S0
          have A0 : V2.cell? ⟨nb, 0, none⟩ = some (.int .i64 0) := KN.out.cell 0
          have A1 : V2.cell? ⟨nb, 1, none⟩ = some (.int .i64 0) := KN.out.cell 1
          have Z0 : V2.frozen? ⟨nb, 0, none⟩ = false := KN.out.free 0
          have Z1 : V2.frozen? ⟨nb, 1, none⟩ = false := KN.out.free 1
          refine wpAnyG_one (i := 11) (by kernel_rfl) rfl (fun K hK => ?_)
          go_simp
          have WN : Hid (Bk ((V2.setCell ⟨nb, 0, none⟩ (.int .i64 (N : Int))).setCell ⟨nb, 1, none⟩ (.int .i64 ((l2 : Int) - 1))) nb (fc N l2) 27) := two_at KN.out
          have WB : Hid (Below w5.heap.size w5 ((V2.setCell ⟨nb, 0, none⟩ (.int .i64 (N : Int))).setCell ⟨nb, 1, none⟩ (.int .i64 ((l2 : Int) - 1)))) := below_two X.out ln _ _
          refine hK.out _ _ (Or.inr (SS.out _ WB.out)) ?_
          clear hK K A0 A1 Z0 Z1 X KN
          generalize ((V2.setCell ⟨nb, 0, none⟩ (.int .i64 (N : Int))).setCell ⟨nb, 1, none⟩ (.int .i64 ((l2 : Int) - 1))) = w6 at *
          refine wpAnyG_one (i := 12) (by kernel_rfl) rfl (fun K hK => ?_)
          go_simp
          refine hK.out _ _ (Or.inr (SS.out _ WB.out)) ?_
          clear hK K
          refine wpAnyG_one (i := 13) (by kernel_rfl) rfl (fun K hK => ?_)
          go_simp
          refine hK.out _ _ (Or.inl (by kernel_rfl)) ?_
          clear hK K
          refine wpAnyG_done (by kernel_rfl) ?_ _
          go_wp2
          go_meet
          exact ⟨nb, rfl, rfl, rfl, WN.out, ln, WB.out⟩
      case rest =>
      obtain ⟨nb, rfl, rfl, rfl, m1, l1, m2⟩ := hcut
      have KR6 := KR5.out.below m2 hz5r
      have Y0 := m1.cell 0
      have Y1 := m1.cell 1
      have T0 := KR6.cell 0
      have T1 := KR6.cell 1
      have Z0 := KR6.free 0
      have Z1 := KR6.free 1
      simp only [List.getElem?_toArray, List.getElem?_cons_zero, List.getElem?_cons_succ] at Y0 Y1 T0 T1
      have N1 : Hid (Fb ((wc.setCell ⟨rb, 0, none⟩ (.int .i64 (N : Int))).setCell ⟨rb, 1, none⟩ (.int .i64 ((l2 : Int) - 1))) b N l2) := ((KA5.out.below m2 hz5b).far hne).far hne
      have N2 : Hid (Bk ((wc.setCell ⟨rb, 0, none⟩ (.int .i64 (N : Int))).setCell ⟨rb, 1, none⟩ (.int .i64 ((l2 : Int) - 1))) rb (fc N l2) 27) := two_at KR6
      have N3 : Hid (Rws ((wc.setCell ⟨rb, 0, none⟩ (.int .i64 (N : Int))).setCell ⟨rb, 1, none⟩ (.int .i64 ((l2 : Int) - 1))) (some ⟨g, o, none⟩) F) := (RW5.out.below m2).gbr KR6 (((Gb.refl rb wc).set _).set _)
      have N4 : Hid (Below w.heap.size w ((wc.setCell ⟨rb, 0, none⟩ (.int .i64 (N : Int))).setCell ⟨rb, 1, none⟩ (.int .i64 ((l2 : Int) - 1)))) := below_two (Y5.out.trans (m2.mono Y5.out.size)) hwr _ _
      go_upto_region 19 with fail
      clear Y0 Y1 T0 T1 Z0 Z1 m1 m2 KA5 KR5 RW5 Y5 KR6 CAT1 CAT2
      generalize ((wc.setCell ⟨rb, 0, none⟩ (.int .i64 (N : Int))).setCell ⟨rb, 1, none⟩ (.int .i64 ((l2 : Int) - 1))) = w7 at *
      have LC := fun m => LA _ l2 (N1.out.drewN m)
      have c1 := N2.out.cell 1
      simp only [List.getElem?_toArray, List.getElem?_cons_zero, List.getElem?_cons_succ] at c1
      clear LA PA
      obtain ⟨z, hz⟩ : ∃ z, (l2 : Int) - 1 = z := ⟨_, rfl⟩
      simp only [hz] at LC c1
      clear hz
      go_wp2_with fail
      go_quiet ((go_at_call 16; exact Calls.quiet_of_same ((LC _).mono fun _ _ h => ⟨h.1, h.2.symm⟩)))
      go_wp2
      go_roundw
      case rel => exact ⟨j + 1, l2, by omega, by go_num, hl2, N1.out.drewN _, N2.out.drewN _, N3.out.drewN _, dn N4.out _⟩
      case measure => simp [RowKit.intOf]; omega
end Go.Proofs.Ytaeoglfpcbehdaa
