/-
  The walk of LinkPlays.
-/
import Derived.Test.YtihfekcdghmkhaaLStepR
import Derived.Test.YtihfekcdghmkhaaLLives
import Derived.Test.YtihfekcdghmkhaaLGw
namespace Go.Proofs.Ytihfekcdghmkhaa
open Go.RowKit
open RC (Cl cc cv zc cc_len cc_at)

/-- The document's link in a block, beside the program's. -/
structure Rb (w : World) (rb : Nat) (F : Nat → Prop) (cs : Array Value) (S : LS) : Prop where
  in_ : RefIn w (.agg cs) S
  bk : Bk w rb cs 30
  off : ∀ g, Vb (.agg cs) g → ¬ F g ∧ g ≠ rb
  offb : ¬ F rb
theorem Rb.next {w w' : World} {rb : Nat} {F : Nat → Prop} {cs : Array Value} {S : LS} (h : Rb w rb F cs S) (b : Below w.heap.size w w') : Rb w' rb F cs S := ⟨h.in_.below b, h.bk.next b, h.off, h.offb⟩
theorem Rb.gr {w w' : World} {rb : Nat} {F F' : Nat → Prop} {cs : Array Value} {S : LS} (h : Rb w rb F cs S) (g : Gr F w w' F') : Rb w' rb F' cs S :=
  ⟨h.in_.gr g fun k hk => (h.off k hk).1, h.bk.gr g h.offb, fun k hk => ⟨g.off (h.off k hk).1 (h.in_.lt k hk), (h.off k hk).2⟩, g.off h.offb h.bk.lt⟩
/-- Its seven cells. -/
theorem RefAt.cells {w : World} {cs : Array Value} {S : LS} (h : RefAt w (.agg cs) S) : ∃ a1 a2 a3 a4 c1 c2 c3 c4, cs = #[.int .i64 (S.n : Int), .int .i64 (S.d : Int), .int .i64 (S.r : Int), .slice a1 S.cr.length c1, .slice a2 S.ws.length c2, .slice a3 S.far.length c3, .slice a4 S.bk.length c4] ∧ Rd w a1 (vi S.cr) ∧ Rd w a2 (S.ws.flatMap cc) ∧ Rd w a3 (vi S.far) ∧ Rd w a4 (vi S.bk) := by
  obtain ⟨a1, a2, a3, a4, c1, c2, c3, c4, e, ⟨h1, h2, h3, h4⟩, _⟩ := h
  unfold lsv at e
  injection e with e
  exact ⟨a1, a2, a3, a4, c1, c2, c3, c4, e, h1, h2, h3, h4⟩

set_option maxRecDepth 100000 in
set_option maxHeartbeats 16000000 in
theorem plays_law (a0 a1 a2 : Int) (R : List Opn) (a : Option Addr) (c : Nat) (w : World) (hr : Rd w a (ops R)) (hcap : R.length ≤ c) (hm : c ≤ maxLen) (hnil : a = none → c = 0) :
    Calls Try.prog 3 #[.agg #[.int .i64 a0, .int .i64 a1, .int .i64 a2], .slice a R.length c] w fun e w' => e = .returned (.bool true) ∧ Below w.heap.size w w' := by
  have HR : Hid (Rd w a (ops R)) := hr
  have EC := fun v => early_any a R.length c v hcap hm hnil
  have P0 : Hid (Bk (w.alloc (.cells #[.int .i64 a0, .int .i64 a1, .int .i64 a2] 22)) w.heap.size #[.int .i64 a0, .int .i64 a1, .int .i64 a2] 22) := Bk.new _ _ _
  have B0 : Hid (Below w.heap.size w (w.alloc (.cells #[.int .i64 a0, .int .i64 a1, .int .i64 a2] 22))) := (Below.refl _ _).alloc (Nat.le_refl _) _
  have LV := lives_any (w.alloc (.cells #[.int .i64 a0, .int .i64 a1, .int .i64 a2] 22))
  clear hr hnil
  go_enter Try.func3, Try.ntmps3
  go_upto_region 1 with fail
  generalize w.alloc (.cells #[.int .i64 a0, .int .i64 a1, .int .i64 a2] 22) = v0 at *
  obtain ⟨ab, hab⟩ : ∃ B, w.heap.size = B := ⟨_, rfl⟩
  have HAB : Hid (w.heap.size = ab) := hab
  rw [hab] at P0 B0 ⊢
  clear hab
  go_wp2_with fail
  go_at_call 10
  with_reducible refine LV.mono ?_
  rintro e w1 ⟨rfl, b1⟩
  have P1 : Hid (Bk w1 ab #[.int .i64 a0, .int .i64 a1, .int .i64 a2] 22) := P0.out.next b1
  have B1 : Hid (Below ab w w1) := B0.out.trans (b1.mono (Nat.le_of_lt P0.out.lt))
  clear LV b1 P0 B0
  have NC := fun v => link_new a0 a1 a2 v
  have RC := fun v => rnew_any a0 a1 a2 v
  have OK0 : Hid (Ok (newS a0 a1 a2)) := Ok.new a0 a1 a2
  generalize newS a0 a1 a2 = S0 at *
  go_upto_region 3 with fail
  go_cut [5, 6] from 17 to 30 (fun x y wc => ∃ b F rb cs, x = .pointer (some ⟨b, 0, none⟩) ∧ y = .pointer (some ⟨rb, 0, none⟩) ∧ St w wc b S0 F ∧ Rb wc rb F cs S0 ∧ w.heap.size ≤ rb)
  case first =>
    have SS : Hid (∀ V, Below w1.heap.size w1 V → V.cell? ⟨ab, 0, none⟩ = some (.int .i64 a0) ∧ V.cell? ⟨ab, 1, none⟩ = some (.int .i64 a1) ∧ V.cell? ⟨ab, 2, none⟩ = some (.int .i64 a2)) := show _ from fun V h => ⟨(P1.out.next h).cell 0, (P1.out.next h).cell 1, (P1.out.next h).cell 2⟩
    refine wp_region_G (fun V : World => V.cell? ⟨ab, 0, none⟩ = some (.int .i64 a0) ∧ V.cell? ⟨ab, 1, none⟩ = some (.int .i64 a1) ∧ V.cell? ⟨ab, 2, none⟩ = some (.int .i64 a2)) 16 (by kernel_rfl) ?_
    have hwB : w.heap.size ≤ w1.heap.size := by have := HAB.out; have := P1.out.lt; omega
    have BW : Hid (Below w.heap.size w w1) := show Below w.heap.size w w1 from HAB.out ▸ B1.out
    have X : Hid (Below w1.heap.size w1 w1.drew) := (Below.refl _ _).drew
    generalize w1.drew = V0 at *
    have S0' : (fun V : World => V.cell? ⟨ab, 0, none⟩ = some (.int .i64 a0) ∧ V.cell? ⟨ab, 1, none⟩ = some (.int .i64 a1) ∧ V.cell? ⟨ab, 2, none⟩ = some (.int .i64 a2)) V0 := SS.out V0 X.out
    clear P1 B1 HAB
    refine wpAnyG_take [16] (some 17) (i := 0) (v := ?va0) rfl rfl (by kernel_rfl) (by kernel_rfl) (by kernel_rfl) (by kernel_rfl) (fun _ _ _ h => h) (Or.inl ⟨by rfl, ?ya0⟩) S0' ?ra0
    case ya0 => (intro V hSV; obtain ⟨d0, d1, d2⟩ := hSV; go_simp; try with_reducible rfl)
    simp only [Act.put, List.setIfInBounds_toArray, List.set_cons_zero, List.set_cons_succ]
    refine wpAnyG_take [16] (some 18) (i := 1) (v := ?va1) rfl rfl (by kernel_rfl) (by kernel_rfl) (by kernel_rfl) (by kernel_rfl) (fun _ _ _ h => h) (Or.inl ⟨by rfl, ?ya1⟩) S0' ?ra1
    case ya1 => (intro V hSV; obtain ⟨d0, d1, d2⟩ := hSV; go_simp; try with_reducible rfl)
    simp only [Act.put, List.setIfInBounds_toArray, List.set_cons_zero, List.set_cons_succ]
    refine wpAnyG_take [16] (some 19) (i := 2) (v := ?va2) rfl rfl (by kernel_rfl) (by kernel_rfl) (by kernel_rfl) (by kernel_rfl) (fun _ _ _ h => h) (Or.inl ⟨by rfl, ?ya2⟩) S0' ?ra2
    case ya2 => (intro V hSV; obtain ⟨d0, d1, d2⟩ := hSV; go_simp; try with_reducible rfl)
    simp only [Act.put, List.setIfInBounds_toArray, List.set_cons_zero, List.set_cons_succ]
    refine wpAnyG_take [16] (some 20) (i := 3) (v := ?va3) rfl rfl (by kernel_rfl) (by kernel_rfl) (by kernel_rfl) (by kernel_rfl) (fun _ _ _ h => h) (Or.inl ⟨by rfl, ?ya3⟩) S0' ?ra3
    case ya3 => (intro V hSV; obtain ⟨d0, d1, d2⟩ := hSV; go_simp; try with_reducible rfl)
    simp only [Act.put, List.setIfInBounds_toArray, List.set_cons_zero, List.set_cons_succ]
    refine wpAnyG_take [16] (some 21) (i := 4) (v := ?va4) rfl rfl (by kernel_rfl) (by kernel_rfl) (by kernel_rfl) (by kernel_rfl) (fun _ _ _ h => h) (Or.inl ⟨by rfl, ?ya4⟩) S0' ?ra4
    case ya4 => (intro V hSV; obtain ⟨d0, d1, d2⟩ := hSV; go_simp; try with_reducible rfl)
    simp only [Act.put, List.setIfInBounds_toArray, List.set_cons_zero, List.set_cons_succ]
    refine wpAnyG_take [16] (some 22) (i := 5) (v := ?va5) rfl rfl (by kernel_rfl) (by kernel_rfl) (by kernel_rfl) (by kernel_rfl) (fun _ _ _ h => h) (Or.inl ⟨by rfl, ?ya5⟩) S0' ?ra5
    case ya5 => (intro V hSV; obtain ⟨d0, d1, d2⟩ := hSV; go_simp; try with_reducible rfl)
    simp only [Act.put, List.setIfInBounds_toArray, List.set_cons_zero, List.set_cons_succ]
    refine wpAnyG_take [16] (some 24) (i := 7) (v := ?va7) rfl rfl (by kernel_rfl) (by kernel_rfl) (by kernel_rfl) (by kernel_rfl) (fun _ _ _ h => h) (Or.inl ⟨by rfl, ?ya7⟩) S0' ?ra7
    case ya7 => (intro V hSV; obtain ⟨d0, d1, d2⟩ := hSV; go_simp; try with_reducible rfl)
    simp only [Act.put, List.setIfInBounds_toArray, List.set_cons_zero, List.set_cons_succ]
    refine wpAnyG_take [16] (some 25) (i := 8) (v := ?va8) rfl rfl (by kernel_rfl) (by kernel_rfl) (by kernel_rfl) (by kernel_rfl) (fun _ _ _ h => h) (Or.inl ⟨by rfl, ?ya8⟩) S0' ?ra8
    case ya8 => (intro V hSV; obtain ⟨d0, d1, d2⟩ := hSV; go_simp; try with_reducible rfl)
    simp only [Act.put, List.setIfInBounds_toArray, List.set_cons_zero, List.set_cons_succ]
    refine wpAnyG_take [16] (some 26) (i := 9) (v := ?va9) rfl rfl (by kernel_rfl) (by kernel_rfl) (by kernel_rfl) (by kernel_rfl) (fun _ _ _ h => h) (Or.inl ⟨by rfl, ?ya9⟩) S0' ?ra9
    case ya9 => (intro V hSV; obtain ⟨d0, d1, d2⟩ := hSV; go_simp; try with_reducible rfl)
    simp only [Act.put, List.setIfInBounds_toArray, List.set_cons_zero, List.set_cons_succ]
    refine wpAnyG_take [16] (some 27) (i := 10) (v := ?va10) rfl rfl (by kernel_rfl) (by kernel_rfl) (by kernel_rfl) (by kernel_rfl) (fun _ _ _ h => h) (Or.inl ⟨by rfl, ?ya10⟩) S0' ?ra10
    case ya10 => (intro V hSV; obtain ⟨d0, d1, d2⟩ := hSV; go_simp; try with_reducible rfl)
    simp only [Act.put, List.setIfInBounds_toArray, List.set_cons_zero, List.set_cons_succ]
    refine wpAnyG_take [16] (some 28) (i := 11) (v := ?va11) rfl rfl (by kernel_rfl) (by kernel_rfl) (by kernel_rfl) (by kernel_rfl) (fun _ _ _ h => h) (Or.inl ⟨by rfl, ?ya11⟩) S0' ?ra11
    case ya11 => (intro V hSV; obtain ⟨d0, d1, d2⟩ := hSV; go_simp; try with_reducible rfl)
    simp only [Act.put, List.setIfInBounds_toArray, List.set_cons_zero, List.set_cons_succ]
    refine wpAnyG_take [16] (some 29) (i := 12) (v := ?va12) rfl rfl (by kernel_rfl) (by kernel_rfl) (by kernel_rfl) (by kernel_rfl) (fun _ _ _ h => h) (Or.inl ⟨by rfl, ?ya12⟩) S0' ?ra12
    case ya12 => (intro V hSV; obtain ⟨d0, d1, d2⟩ := hSV; go_simp; try with_reducible rfl)
    simp only [Act.put, List.setIfInBounds_toArray, List.set_cons_zero, List.set_cons_succ]
    clear S0'
    refine wpAnyG_any [6, 14] (by kernel_rfl) (by rfl) ?_
    intro i hi
    rcases mem2 hi with rfl | rfl
    · clear hi
      refine wpOpG (i := 6) rfl (fun K hK => ?_)
      go_simp
      with_reducible refine (NC V0).mono ?_
      rintro e VX ⟨b, F, rfl, l0, f0, hbx⟩
      have X2 : Hid (Below w1.heap.size w1 VX) := X.out.trans ((hbx).mono X.out.size)
      have L2 : Hid (St w VX b S0 F) := show St w VX b S0 F from ⟨l0, fun g hg => Nat.le_trans hwB (Nat.le_trans X.out.size (f0 g hg)), BW.out.trans (X2.out.mono hwB)⟩
      refine hK.out _ _ (Or.inr (SS.out _ X2.out)) ?_
      clear hK K hbx l0 f0 X
      have L := L2
      clear L2
      have X := X2
      clear X2
      generalize VX = V1 at *
      try simp only [Act.put, List.setIfInBounds_toArray, List.set_cons_zero, List.set_cons_succ]
      refine wpAnyG_any [13, 14] (by kernel_rfl) (by rfl) ?_
      intro i hi
      rcases mem2 hi with rfl | rfl
      · clear hi
        refine wpOpG (i := 13) rfl (fun K hK => ?_)
        go_simp
        with_reducible refine (RC V1).mono ?_
        rintro e VX ⟨rv, rfl, r0, hbx, f0⟩
        have X2 : Hid (Below w1.heap.size w1 VX) := X.out.trans ((hbx).mono X.out.size)
        have L2 : Hid (St w VX b S0 F) := L.out.next (hbx)
        have R2 : Hid (RefIn VX rv S0) := show RefIn VX rv S0 from ⟨r0, fun g hg => (f0 g hg).2⟩
        have NRF : Hid (∀ g, Vb rv g → ¬ F g) := show ∀ g, Vb rv g → ¬ F g from fun g hg hf => by have h1 := L.out.lk.lt g hf; have h2 := (f0 g hg).1; omega
        refine hK.out _ _ (Or.inr (SS.out _ X2.out)) ?_
        clear hK K hbx r0 f0 X L
        have L := L2
        clear L2
        have R := R2
        clear R2
        have X := X2
        clear X2
        generalize VX = V2 at *
        try simp only [Act.put, List.setIfInBounds_toArray, List.set_cons_zero, List.set_cons_succ]
        refine wpAnyG_one (i := 14) (by kernel_rfl) rfl (fun K hK => ?_)
        go_simp
        have X2 : Hid (Below w1.heap.size w1 (V2.alloc (.cells lz 30))) := X.out.trans (((Below.refl V2.heap.size V2).alloc (Nat.le_refl _) (.cells lz 30)).mono X.out.size)
        have L2 : Hid (St w (V2.alloc (.cells lz 30)) b S0 F) := L.out.next ((Below.refl V2.heap.size V2).alloc (Nat.le_refl _) (.cells lz 30))
        have R2 : Hid (RefIn (V2.alloc (.cells lz 30)) rv S0) := R.out.below ((Below.refl V2.heap.size V2).alloc (Nat.le_refl _) (.cells lz 30))
        have KB2 : Hid (Bk (V2.alloc (.cells lz 30)) V2.heap.size lz 30) := Bk.new _ _ _
        have hrb : w1.heap.size ≤ V2.heap.size := X.out.size
        have NFB : Hid (¬ F V2.heap.size) := show ¬ F V2.heap.size from L.out.off (Nat.le_refl _)
        have NRB : Hid (∀ g, Vb rv g → g ≠ V2.heap.size) := show ∀ g, Vb rv g → g ≠ V2.heap.size from fun g hg => by have := R.out.lt g hg; omega
        refine hK.out _ _ (Or.inr (SS.out _ X2.out)) ?_
        clear hK K X L R
        have KB := KB2
        clear KB2
        have L := L2
        clear L2
        have R := R2
        clear R2
        have X := X2
        clear X2
        generalize (V2.alloc (.cells lz 30)) = V3 at *
        generalize V2.heap.size = rb at *
        try simp only [Act.put, List.setIfInBounds_toArray, List.set_cons_zero, List.set_cons_succ]
        obtain ⟨b1, b2, b3, b4, e1, e2, e3, e4, ev, -, -, -⟩ := R.out.at_
        unfold lsv at ev
        subst ev
        refine wpAnyG_one (i := 15) (by kernel_rfl) rfl (fun K hK => ?_)
        go_simp
        refine hK.out _ _ (Or.inr (SS.out _ X.out)) ?_
        clear hK K
        try simp only [Act.put, List.setIfInBounds_toArray, List.set_cons_zero, List.set_cons_succ]
        have z := fun i => KB.out.free i
        have c0 := KB.out.cell 0
        have c1 := KB.out.cell 1
        have c2 := KB.out.cell 2
        have c3 := KB.out.cell 3
        have c4 := KB.out.cell 4
        have c5 := KB.out.cell 5
        have c6 := KB.out.cell 6
        simp only [List.getElem?_toArray, List.getElem?_cons_zero, List.getElem?_cons_succ] at c0 c1 c2 c3 c4 c5 c6
        have z0 := z 0
        have z1 := z 1
        have z2 := z 2
        have z3 := z 3
        have z4 := z 4
        have z5 := z 5
        have z6 := z 6
        clear z
        refine wpAnyG_one (i := 16) (by kernel_rfl) rfl (fun K hK => ?_)
        go_simp
        have L7 : Hid (St w ((((((((V3.setCell ⟨rb, 0, none⟩ (.int .i64 (S0.n : Int))).setCell ⟨rb, 1, none⟩ (.int .i64 (S0.d : Int))).setCell ⟨rb, 2, none⟩ (.int .i64 (S0.r : Int))).setCell ⟨rb, 3, none⟩ (.slice b1 S0.cr.length e1)).setCell ⟨rb, 4, none⟩ (.slice b2 S0.ws.length e2)).setCell ⟨rb, 5, none⟩ (.slice b3 S0.far.length e3)).setCell ⟨rb, 6, none⟩ (.slice b4 S0.bk.length e4))) b S0 F) := ((((((L.out.far NFB.out (Nat.le_trans hwB hrb)).far NFB.out (Nat.le_trans hwB hrb)).far NFB.out (Nat.le_trans hwB hrb)).far NFB.out (Nat.le_trans hwB hrb)).far NFB.out (Nat.le_trans hwB hrb)).far NFB.out (Nat.le_trans hwB hrb)).far NFB.out (Nat.le_trans hwB hrb)
        have NV : ¬ Vb (.agg #[.int .i64 (S0.n : Int), .int .i64 (S0.d : Int), .int .i64 (S0.r : Int), .slice b1 S0.cr.length e1, .slice b2 S0.ws.length e2, .slice b3 S0.far.length e3, .slice b4 S0.bk.length e4]) rb := fun h => NRB.out rb h rfl
        have R7 : Hid (Rb ((((((((V3.setCell ⟨rb, 0, none⟩ (.int .i64 (S0.n : Int))).setCell ⟨rb, 1, none⟩ (.int .i64 (S0.d : Int))).setCell ⟨rb, 2, none⟩ (.int .i64 (S0.r : Int))).setCell ⟨rb, 3, none⟩ (.slice b1 S0.cr.length e1)).setCell ⟨rb, 4, none⟩ (.slice b2 S0.ws.length e2)).setCell ⟨rb, 5, none⟩ (.slice b3 S0.far.length e3)).setCell ⟨rb, 6, none⟩ (.slice b4 S0.bk.length e4))) rb F #[.int .i64 (S0.n : Int), .int .i64 (S0.d : Int), .int .i64 (S0.r : Int), .slice b1 S0.cr.length e1, .slice b2 S0.ws.length e2, .slice b3 S0.far.length e3, .slice b4 S0.bk.length e4] S0) := show Rb _ _ _ _ _ from ⟨((((((R.out.far NV).far NV).far NV).far NV).far NV).far NV).far NV, seven_at KB.out _ _ _ _ _ _ _, fun g hg => ⟨NRF.out g hg, NRB.out g hg⟩, NFB.out⟩
        refine hK.out _ _ (Or.inl (by kernel_rfl)) ?_
        refine wpAnyG_done (by kernel_rfl) ?_ _
        go_wp2
        go_meet
        exact ⟨b, F, rb, _, rfl, rfl, L7.out, R7.out, Nat.le_trans hwB hrb⟩
      · clear hi
        refine wpOpG (i := 14) rfl (fun K hK => ?_)
        go_simp
        have X2 : Hid (Below w1.heap.size w1 (V1.alloc (.cells lz 30))) := X.out.trans (((Below.refl V1.heap.size V1).alloc (Nat.le_refl _) (.cells lz 30)).mono X.out.size)
        have L2 : Hid (St w (V1.alloc (.cells lz 30)) b S0 F) := L.out.next ((Below.refl V1.heap.size V1).alloc (Nat.le_refl _) (.cells lz 30))
        have KB2 : Hid (Bk (V1.alloc (.cells lz 30)) V1.heap.size lz 30) := Bk.new _ _ _
        have hrb : w1.heap.size ≤ V1.heap.size := X.out.size
        have NFB : Hid (¬ F V1.heap.size) := show ¬ F V1.heap.size from L.out.off (Nat.le_refl _)
        refine hK.out _ _ (Or.inr (SS.out _ X2.out)) ?_
        clear hK K X L
        have KB := KB2
        clear KB2
        have L := L2
        clear L2
        have X := X2
        clear X2
        generalize (V1.alloc (.cells lz 30)) = V4 at *
        generalize V1.heap.size = rb at *
        try simp only [Act.put, List.setIfInBounds_toArray, List.set_cons_zero, List.set_cons_succ]
        refine wpAnyG_one (i := 13) (by kernel_rfl) rfl (fun K hK => ?_)
        go_simp
        with_reducible refine (RC V4).mono ?_
        rintro e VX ⟨rv, rfl, r0, hbx, f0⟩
        have X2 : Hid (Below w1.heap.size w1 VX) := X.out.trans ((hbx).mono X.out.size)
        have L2 : Hid (St w VX b S0 F) := L.out.next (hbx)
        have KB2 : Hid (Bk VX rb lz 30) := KB.out.next (hbx)
        have R2 : Hid (RefIn VX rv S0) := show RefIn VX rv S0 from ⟨r0, fun g hg => (f0 g hg).2⟩
        have NRF : Hid (∀ g, Vb rv g → ¬ F g) := show ∀ g, Vb rv g → ¬ F g from fun g hg hf => by have h1 := L.out.lk.lt g hf; have h2 := (f0 g hg).1; omega
        have NRB : Hid (∀ g, Vb rv g → g ≠ rb) := show ∀ g, Vb rv g → g ≠ rb from fun g hg => by have h1 := (f0 g hg).1; have h2 := KB.out.lt; omega
        refine hK.out _ _ (Or.inr (SS.out _ X2.out)) ?_
        clear hK K hbx r0 f0 X L KB
        have KB := KB2
        clear KB2
        have L := L2
        clear L2
        have R := R2
        clear R2
        have X := X2
        clear X2
        generalize VX = V5 at *
        try simp only [Act.put, List.setIfInBounds_toArray, List.set_cons_zero, List.set_cons_succ]
        obtain ⟨b1, b2, b3, b4, e1, e2, e3, e4, ev, -, -, -⟩ := R.out.at_
        unfold lsv at ev
        subst ev
        refine wpAnyG_one (i := 15) (by kernel_rfl) rfl (fun K hK => ?_)
        go_simp
        refine hK.out _ _ (Or.inr (SS.out _ X.out)) ?_
        clear hK K
        try simp only [Act.put, List.setIfInBounds_toArray, List.set_cons_zero, List.set_cons_succ]
        have z := fun i => KB.out.free i
        have c0 := KB.out.cell 0
        have c1 := KB.out.cell 1
        have c2 := KB.out.cell 2
        have c3 := KB.out.cell 3
        have c4 := KB.out.cell 4
        have c5 := KB.out.cell 5
        have c6 := KB.out.cell 6
        simp only [List.getElem?_toArray, List.getElem?_cons_zero, List.getElem?_cons_succ] at c0 c1 c2 c3 c4 c5 c6
        have z0 := z 0
        have z1 := z 1
        have z2 := z 2
        have z3 := z 3
        have z4 := z 4
        have z5 := z 5
        have z6 := z 6
        clear z
        refine wpAnyG_one (i := 16) (by kernel_rfl) rfl (fun K hK => ?_)
        go_simp
        have L7 : Hid (St w ((((((((V5.setCell ⟨rb, 0, none⟩ (.int .i64 (S0.n : Int))).setCell ⟨rb, 1, none⟩ (.int .i64 (S0.d : Int))).setCell ⟨rb, 2, none⟩ (.int .i64 (S0.r : Int))).setCell ⟨rb, 3, none⟩ (.slice b1 S0.cr.length e1)).setCell ⟨rb, 4, none⟩ (.slice b2 S0.ws.length e2)).setCell ⟨rb, 5, none⟩ (.slice b3 S0.far.length e3)).setCell ⟨rb, 6, none⟩ (.slice b4 S0.bk.length e4))) b S0 F) := ((((((L.out.far NFB.out (Nat.le_trans hwB hrb)).far NFB.out (Nat.le_trans hwB hrb)).far NFB.out (Nat.le_trans hwB hrb)).far NFB.out (Nat.le_trans hwB hrb)).far NFB.out (Nat.le_trans hwB hrb)).far NFB.out (Nat.le_trans hwB hrb)).far NFB.out (Nat.le_trans hwB hrb)
        have NV : ¬ Vb (.agg #[.int .i64 (S0.n : Int), .int .i64 (S0.d : Int), .int .i64 (S0.r : Int), .slice b1 S0.cr.length e1, .slice b2 S0.ws.length e2, .slice b3 S0.far.length e3, .slice b4 S0.bk.length e4]) rb := fun h => NRB.out rb h rfl
        have R7 : Hid (Rb ((((((((V5.setCell ⟨rb, 0, none⟩ (.int .i64 (S0.n : Int))).setCell ⟨rb, 1, none⟩ (.int .i64 (S0.d : Int))).setCell ⟨rb, 2, none⟩ (.int .i64 (S0.r : Int))).setCell ⟨rb, 3, none⟩ (.slice b1 S0.cr.length e1)).setCell ⟨rb, 4, none⟩ (.slice b2 S0.ws.length e2)).setCell ⟨rb, 5, none⟩ (.slice b3 S0.far.length e3)).setCell ⟨rb, 6, none⟩ (.slice b4 S0.bk.length e4))) rb F #[.int .i64 (S0.n : Int), .int .i64 (S0.d : Int), .int .i64 (S0.r : Int), .slice b1 S0.cr.length e1, .slice b2 S0.ws.length e2, .slice b3 S0.far.length e3, .slice b4 S0.bk.length e4] S0) := show Rb _ _ _ _ _ from ⟨((((((R.out.far NV).far NV).far NV).far NV).far NV).far NV).far NV, seven_at KB.out _ _ _ _ _ _ _, fun g hg => ⟨NRF.out g hg, NRB.out g hg⟩, NFB.out⟩
        refine hK.out _ _ (Or.inl (by kernel_rfl)) ?_
        refine wpAnyG_done (by kernel_rfl) ?_ _
        go_wp2
        go_meet
        exact ⟨b, F, rb, _, rfl, rfl, L7.out, R7.out, Nat.le_trans hwB hrb⟩
    · clear hi
      refine wpOpG (i := 14) rfl (fun K hK => ?_)
      go_simp
      have X2 : Hid (Below w1.heap.size w1 (V0.alloc (.cells lz 30))) := X.out.trans (((Below.refl V0.heap.size V0).alloc (Nat.le_refl _) (.cells lz 30)).mono X.out.size)
      have KB2 : Hid (Bk (V0.alloc (.cells lz 30)) V0.heap.size lz 30) := Bk.new _ _ _
      have hrb : w1.heap.size ≤ V0.heap.size := X.out.size
      refine hK.out _ _ (Or.inr (SS.out _ X2.out)) ?_
      clear hK K X
      have KB := KB2
      clear KB2
      have X := X2
      clear X2
      generalize (V0.alloc (.cells lz 30)) = V6 at *
      have HRB : Hid (V0.heap.size < V6.heap.size) := show V0.heap.size < V6.heap.size from KB.out.lt
      generalize V0.heap.size = rb at *
      try simp only [Act.put, List.setIfInBounds_toArray, List.set_cons_zero, List.set_cons_succ]
      refine wpAnyG_one (i := 6) (by kernel_rfl) rfl (fun K hK => ?_)
      go_simp
      with_reducible refine (NC V6).mono ?_
      rintro e VX ⟨b, F, rfl, l0, f0, hbx⟩
      have X2 : Hid (Below w1.heap.size w1 VX) := X.out.trans ((hbx).mono X.out.size)
      have KB2 : Hid (Bk VX rb lz 30) := KB.out.next (hbx)
      have L2 : Hid (St w VX b S0 F) := show St w VX b S0 F from ⟨l0, fun g hg => Nat.le_trans hwB (Nat.le_trans X.out.size (f0 g hg)), BW.out.trans (X2.out.mono hwB)⟩
      have NFB : Hid (¬ F rb) := show ¬ F rb from fun h => by have h1 := f0 _ h; have h2 := HRB.out; omega
      refine hK.out _ _ (Or.inr (SS.out _ X2.out)) ?_
      clear hK K hbx l0 f0 X KB
      have KB := KB2
      clear KB2
      have L := L2
      clear L2
      have X := X2
      clear X2
      generalize VX = V7 at *
      try simp only [Act.put, List.setIfInBounds_toArray, List.set_cons_zero, List.set_cons_succ]
      refine wpAnyG_one (i := 13) (by kernel_rfl) rfl (fun K hK => ?_)
      go_simp
      with_reducible refine (RC V7).mono ?_
      rintro e VX ⟨rv, rfl, r0, hbx, f0⟩
      have X2 : Hid (Below w1.heap.size w1 VX) := X.out.trans ((hbx).mono X.out.size)
      have L2 : Hid (St w VX b S0 F) := L.out.next (hbx)
      have KB2 : Hid (Bk VX rb lz 30) := KB.out.next (hbx)
      have R2 : Hid (RefIn VX rv S0) := show RefIn VX rv S0 from ⟨r0, fun g hg => (f0 g hg).2⟩
      have NRF : Hid (∀ g, Vb rv g → ¬ F g) := show ∀ g, Vb rv g → ¬ F g from fun g hg hf => by have h1 := L.out.lk.lt g hf; have h2 := (f0 g hg).1; omega
      have NRB : Hid (∀ g, Vb rv g → g ≠ rb) := show ∀ g, Vb rv g → g ≠ rb from fun g hg => by have h1 := (f0 g hg).1; have h2 := KB.out.lt; omega
      refine hK.out _ _ (Or.inr (SS.out _ X2.out)) ?_
      clear hK K hbx r0 f0 X L KB
      have KB := KB2
      clear KB2
      have L := L2
      clear L2
      have R := R2
      clear R2
      have X := X2
      clear X2
      generalize VX = V8 at *
      try simp only [Act.put, List.setIfInBounds_toArray, List.set_cons_zero, List.set_cons_succ]
      obtain ⟨b1, b2, b3, b4, e1, e2, e3, e4, ev, -, -, -⟩ := R.out.at_
      unfold lsv at ev
      subst ev
      refine wpAnyG_one (i := 15) (by kernel_rfl) rfl (fun K hK => ?_)
      go_simp
      refine hK.out _ _ (Or.inr (SS.out _ X.out)) ?_
      clear hK K
      try simp only [Act.put, List.setIfInBounds_toArray, List.set_cons_zero, List.set_cons_succ]
      have z := fun i => KB.out.free i
      have c0 := KB.out.cell 0
      have c1 := KB.out.cell 1
      have c2 := KB.out.cell 2
      have c3 := KB.out.cell 3
      have c4 := KB.out.cell 4
      have c5 := KB.out.cell 5
      have c6 := KB.out.cell 6
      simp only [List.getElem?_toArray, List.getElem?_cons_zero, List.getElem?_cons_succ] at c0 c1 c2 c3 c4 c5 c6
      have z0 := z 0
      have z1 := z 1
      have z2 := z 2
      have z3 := z 3
      have z4 := z 4
      have z5 := z 5
      have z6 := z 6
      clear z
      refine wpAnyG_one (i := 16) (by kernel_rfl) rfl (fun K hK => ?_)
      go_simp
      have L7 : Hid (St w ((((((((V8.setCell ⟨rb, 0, none⟩ (.int .i64 (S0.n : Int))).setCell ⟨rb, 1, none⟩ (.int .i64 (S0.d : Int))).setCell ⟨rb, 2, none⟩ (.int .i64 (S0.r : Int))).setCell ⟨rb, 3, none⟩ (.slice b1 S0.cr.length e1)).setCell ⟨rb, 4, none⟩ (.slice b2 S0.ws.length e2)).setCell ⟨rb, 5, none⟩ (.slice b3 S0.far.length e3)).setCell ⟨rb, 6, none⟩ (.slice b4 S0.bk.length e4))) b S0 F) := ((((((L.out.far NFB.out (Nat.le_trans hwB hrb)).far NFB.out (Nat.le_trans hwB hrb)).far NFB.out (Nat.le_trans hwB hrb)).far NFB.out (Nat.le_trans hwB hrb)).far NFB.out (Nat.le_trans hwB hrb)).far NFB.out (Nat.le_trans hwB hrb)).far NFB.out (Nat.le_trans hwB hrb)
      have NV : ¬ Vb (.agg #[.int .i64 (S0.n : Int), .int .i64 (S0.d : Int), .int .i64 (S0.r : Int), .slice b1 S0.cr.length e1, .slice b2 S0.ws.length e2, .slice b3 S0.far.length e3, .slice b4 S0.bk.length e4]) rb := fun h => NRB.out rb h rfl
      have R7 : Hid (Rb ((((((((V8.setCell ⟨rb, 0, none⟩ (.int .i64 (S0.n : Int))).setCell ⟨rb, 1, none⟩ (.int .i64 (S0.d : Int))).setCell ⟨rb, 2, none⟩ (.int .i64 (S0.r : Int))).setCell ⟨rb, 3, none⟩ (.slice b1 S0.cr.length e1)).setCell ⟨rb, 4, none⟩ (.slice b2 S0.ws.length e2)).setCell ⟨rb, 5, none⟩ (.slice b3 S0.far.length e3)).setCell ⟨rb, 6, none⟩ (.slice b4 S0.bk.length e4))) rb F #[.int .i64 (S0.n : Int), .int .i64 (S0.d : Int), .int .i64 (S0.r : Int), .slice b1 S0.cr.length e1, .slice b2 S0.ws.length e2, .slice b3 S0.far.length e3, .slice b4 S0.bk.length e4] S0) := show Rb _ _ _ _ _ from ⟨((((((R.out.far NV).far NV).far NV).far NV).far NV).far NV).far NV, seven_at KB.out _ _ _ _ _ _ _, fun g hg => ⟨NRF.out g hg, NRB.out g hg⟩, NFB.out⟩
      refine hK.out _ _ (Or.inl (by kernel_rfl)) ?_
      refine wpAnyG_done (by kernel_rfl) ?_ _
      go_wp2
      go_meet
      exact ⟨b, F, rb, _, rfl, rfl, L7.out, R7.out, Nat.le_trans hwB hrb⟩
  case rest =>
  obtain ⟨b, F0, rb, cs0, rfl, rfl, l3, r3, hrb⟩ := hcut
  have L3 : Hid (St w wc b S0 F0) := l3
  have R3 : Hid (Rb wc rb F0 cs0 S0) := r3
  clear l3 r3 NC RC P1 B1
  obtain ⟨n, hn⟩ : ∃ n, min R.length 150 = n := ⟨_, rfl⟩
  have hn150 : n ≤ 150 := by omega
  have hnR : n ≤ R.length := by omega
  have HX : Hid (∀ (j : Nat) (wr : World), j < n → Below w.heap.size w wr → ∃ g o x, a = some ⟨g, o, none⟩ ∧ g < wr.heap.size ∧ R[j]? = some x ∧ wr.cell? ⟨g, o + j * 3, none⟩ = some (.int .i64 x.kd) ∧ wr.cell? ⟨g, o + j * 3 + 1, none⟩ = some (.int .i64 x.lane) ∧ wr.cell? ⟨g, o + j * 3 + 2, none⟩ = some (.int .u64 x.word)) := show _ from fun j wr hj hb => by
    have hj2 : j < R.length := by omega
    obtain ⟨e0, e1, e2⟩ := ops_at R j R[j] (List.getElem?_eq_getElem hj2)
    obtain ⟨g, o, rfl, hg, h0⟩ := (HR.out.below hb) _ _ e0
    obtain ⟨g1, o1, t1, -, h1⟩ := (HR.out.below hb) _ _ e1
    obtain ⟨g2, o2, t2, -, h2⟩ := (HR.out.below hb) _ _ e2
    simp only [Option.some.injEq, Addr.mk.injEq, and_true] at t1 t2
    obtain ⟨rfl, rfl⟩ := t1
    obtain ⟨rfl, rfl⟩ := t2
    exact ⟨g, o, R[j], rfl, hg, List.getElem?_eq_getElem hj2, h0, by rw [Nat.add_assoc]; exact h1, by rw [Nat.add_assoc]; exact h2⟩
  go_wp2_with fail
  go_at_call 13
  with_reducible refine (EC _).mono ?_
  rintro e w4 ⟨rfl, rfl⟩
  rw [hn]
  clear EC HR hn hcap hm
  go_wp2_with fail
  go_loopw [7] (fun x wr => ∃ (j : Nat) (S : LS) (F : Nat → Prop) (cs : Array Value), j ≤ n ∧ x = .int .i64 j ∧ Ok S ∧ St w wr b S F ∧ Rb wr rb F cs S) (fun x _ => n - (RowKit.intOf x).toNat)
  case atStart => exact ⟨0, S0, F0, cs0, Nat.zero_le _, rfl, OK0.out, L3.out, R3.out⟩
  case round =>
    obtain ⟨j, S, F, cs, hjn, rfl, ok, l, rr⟩ := hrel
    clear OK0 L3 R3
    have HOK : Hid (Ok S) := ok
    have L : Hid (St w wr b S F) := l
    have RR : Hid (Rb wr rb F cs S) := rr
    clear ok l rr S0
    by_cases hex : j < n
    case neg =>
      have e1 : ¬ (j : Int) < (n : Int) := by omega
      go_wp2
      go_ret
      exact ⟨rfl, L.out.below⟩
    have e1 : (j : Int) < (n : Int) := by omega
    have e3 : (0 : Int) ≤ (j : Int) := by omega
    obtain ⟨g, o, x, rfl, hg, hx, h0, h1, h2⟩ := HX.out j wr hex L.out.below
    have HY : Hid (∀ V, Below w.heap.size w V → V.cell? ⟨g, o + j * 3, none⟩ = some (.int .i64 x.kd) ∧ V.cell? ⟨g, o + j * 3 + 1, none⟩ = some (.int .i64 x.lane) ∧ V.cell? ⟨g, o + j * 3 + 2, none⟩ = some (.int .u64 x.word)) := show ∀ V, Below w.heap.size w V → V.cell? ⟨g, o + j * 3, none⟩ = some (.int .i64 x.kd) ∧ V.cell? ⟨g, o + j * 3 + 1, none⟩ = some (.int .i64 x.lane) ∧ V.cell? ⟨g, o + j * 3 + 2, none⟩ = some (.int .u64 x.word) from fun V hV => by
      obtain ⟨g', o', x', eg, -, hx', y0, y1, y2⟩ := HX.out j V hex hV
      simp only [Option.some.injEq, Addr.mk.injEq, and_true] at eg
      obtain ⟨rfl, rfl⟩ := eg
      rw [hx] at hx'
      obtain rfl := Option.some.inj hx'
      exact ⟨y0, y1, y2⟩
    clear hx
    obtain ⟨kd, la, wo⟩ := x
    simp only at h0 h1 h2 HY
    have C1 := step_any L.out.lk ⟨kd, la, wo⟩
    have RSQ := fun V cs (hv : RefIn V (.agg cs) S) => rstep_any HOK.out hv ⟨kd, la, wo⟩
    have HOK2 : Hid (Ok (stepF S (Opn.k ⟨kd, la, wo⟩) la wo).1) := HOK.out.step _ _ _
    simp only [ov] at C1 RSQ
    generalize Opn.k ⟨kd, la, wo⟩ = kk at *
    obtain ⟨r, hr⟩ : ∃ r, stepF S kk la wo = r := ⟨_, rfl⟩
    rw [hr] at C1 HOK2
    simp only [hr] at RSQ
    obtain ⟨S2, cc1, er⟩ := r
    obtain ⟨a1, a2, a3, a4, c1, c2, c3, c4, ecs, -, -, -, -⟩ := RR.out.in_.at_.cells
    subst ecs
    clear hr HOK
    go_upto_region 9 with (go_at_call 14; refine C1.mono ?_; rintro e' w6 ⟨F6, rfl, l6, g6⟩)
    have L6 : Hid (St w (w6.alloc (.cells #[.int .i64 cc1.lane, .int .u64 cc1.word] 35)) b S2 F6) := (L.out.step l6 g6).alloc _
    have RR6 : Hid (Rb (w6.alloc (.cells #[.int .i64 cc1.lane, .int .u64 cc1.word] 35)) rb F6 #[.int .i64 (S.n : Int), .int .i64 (S.d : Int), .int .i64 (S.r : Int), .slice a1 S.cr.length c1, .slice a2 S.ws.length c2, .slice a3 S.far.length c3, .slice a4 S.bk.length c4] S) := (RR.out.gr g6).next ((Below.refl _ _).alloc (Nat.le_refl _) _)
    have K6 : Hid (Bk (w6.alloc (.cells #[.int .i64 cc1.lane, .int .u64 cc1.word] 35)) w6.heap.size #[.int .i64 cc1.lane, .int .u64 cc1.word] 35) := Bk.new _ _ _
    have NRC : Hid (rb ≠ w6.heap.size) := show rb ≠ w6.heap.size from by have h1 := RR.out.bk.lt; have h2 := g6.size; omega
    clear C1 l6 g6 L RR h0 h1 h2 hg
    generalize hX6 : w6.alloc (.cells #[.int .i64 cc1.lane, .int .u64 cc1.word] 35) = v6 at *
    clear hX6
    generalize w6.heap.size = cb at *
    have SS : Hid (∀ V, Below v6.heap.size v6 V → V.cell? ⟨rb, 0, none⟩ = some (.int .i64 (S.n : Int)) ∧ V.cell? ⟨rb, 1, none⟩ = some (.int .i64 (S.d : Int)) ∧ V.cell? ⟨rb, 2, none⟩ = some (.int .i64 (S.r : Int)) ∧ V.cell? ⟨rb, 3, none⟩ = some (.slice a1 S.cr.length c1) ∧ V.cell? ⟨rb, 4, none⟩ = some (.slice a2 S.ws.length c2) ∧ V.cell? ⟨rb, 5, none⟩ = some (.slice a3 S.far.length c3) ∧ V.cell? ⟨rb, 6, none⟩ = some (.slice a4 S.bk.length c4) ∧ V.cell? ⟨g, o + j * 3, none⟩ = some (.int .i64 kd) ∧ V.cell? ⟨g, o + j * 3 + 1, none⟩ = some (.int .i64 la) ∧ V.cell? ⟨g, o + j * 3 + 2, none⟩ = some (.int .u64 wo)) := show ∀ V, Below v6.heap.size v6 V → V.cell? ⟨rb, 0, none⟩ = some (.int .i64 (S.n : Int)) ∧ V.cell? ⟨rb, 1, none⟩ = some (.int .i64 (S.d : Int)) ∧ V.cell? ⟨rb, 2, none⟩ = some (.int .i64 (S.r : Int)) ∧ V.cell? ⟨rb, 3, none⟩ = some (.slice a1 S.cr.length c1) ∧ V.cell? ⟨rb, 4, none⟩ = some (.slice a2 S.ws.length c2) ∧ V.cell? ⟨rb, 5, none⟩ = some (.slice a3 S.far.length c3) ∧ V.cell? ⟨rb, 6, none⟩ = some (.slice a4 S.bk.length c4) ∧ V.cell? ⟨g, o + j * 3, none⟩ = some (.int .i64 kd) ∧ V.cell? ⟨g, o + j * 3 + 1, none⟩ = some (.int .i64 la) ∧ V.cell? ⟨g, o + j * 3 + 2, none⟩ = some (.int .u64 wo) from fun V h => by
      have hb := (RR6.out.bk.next h)
      obtain ⟨y0, y1, y2⟩ := HY.out V (L6.out.next h).below
      exact ⟨hb.cell 0, hb.cell 1, hb.cell 2, hb.cell 3, hb.cell 4, hb.cell 5, hb.cell 6, y0, y1, y2⟩
    have RSC : Hid (∀ V, Below v6.heap.size v6 V → _) := fun V h => RSQ V _ (RR6.out.in_.below h)
    have LTV : Hid (∀ g', Vb (.agg #[.int .i64 (S.n : Int), .int .i64 (S.d : Int), .int .i64 (S.r : Int), .slice a1 S.cr.length c1, .slice a2 S.ws.length c2, .slice a3 S.far.length c3, .slice a4 S.bk.length c4]) g' → g' < v6.heap.size) := RR6.out.in_.lt
    clear RSQ
    go_cut [10, 11, 12] from 48 to 57 (fun x y z wc => ∃ nb cb2 cs', x = .pointer (some ⟨nb, 0, none⟩) ∧ y = .pointer (some ⟨cb2, 0, none⟩) ∧ z = .int .i64 er ∧ Bk wc nb cs' 30 ∧ RefIn wc (.agg cs') S2 ∧ Bk wc cb2 #[.int .i64 cc1.lane, .int .u64 cc1.word] 35 ∧ Below v6.heap.size v6 wc ∧ (∀ g', Vb (.agg cs') g' → Vb (.agg #[.int .i64 (S.n : Int), .int .i64 (S.d : Int), .int .i64 (S.r : Int), .slice a1 S.cr.length c1, .slice a2 S.ws.length c2, .slice a3 S.far.length c3, .slice a4 S.bk.length c4]) g' ∨ v6.heap.size ≤ g'))
    case first =>
      refine wp_region_G (fun V : World => V.cell? ⟨rb, 0, none⟩ = some (.int .i64 (S.n : Int)) ∧ V.cell? ⟨rb, 1, none⟩ = some (.int .i64 (S.d : Int)) ∧ V.cell? ⟨rb, 2, none⟩ = some (.int .i64 (S.r : Int)) ∧ V.cell? ⟨rb, 3, none⟩ = some (.slice a1 S.cr.length c1) ∧ V.cell? ⟨rb, 4, none⟩ = some (.slice a2 S.ws.length c2) ∧ V.cell? ⟨rb, 5, none⟩ = some (.slice a3 S.far.length c3) ∧ V.cell? ⟨rb, 6, none⟩ = some (.slice a4 S.bk.length c4) ∧ V.cell? ⟨g, o + j * 3, none⟩ = some (.int .i64 kd) ∧ V.cell? ⟨g, o + j * 3 + 1, none⟩ = some (.int .i64 la) ∧ V.cell? ⟨g, o + j * 3 + 2, none⟩ = some (.int .u64 wo)) 14 (by kernel_rfl) ?_
      have X : Hid (Below v6.heap.size v6 v6.drew) := (Below.refl _ _).drew
      generalize v6.drew = V0 at *
      have S9 : (fun V : World => V.cell? ⟨rb, 0, none⟩ = some (.int .i64 (S.n : Int)) ∧ V.cell? ⟨rb, 1, none⟩ = some (.int .i64 (S.d : Int)) ∧ V.cell? ⟨rb, 2, none⟩ = some (.int .i64 (S.r : Int)) ∧ V.cell? ⟨rb, 3, none⟩ = some (.slice a1 S.cr.length c1) ∧ V.cell? ⟨rb, 4, none⟩ = some (.slice a2 S.ws.length c2) ∧ V.cell? ⟨rb, 5, none⟩ = some (.slice a3 S.far.length c3) ∧ V.cell? ⟨rb, 6, none⟩ = some (.slice a4 S.bk.length c4) ∧ V.cell? ⟨g, o + j * 3, none⟩ = some (.int .i64 kd) ∧ V.cell? ⟨g, o + j * 3 + 1, none⟩ = some (.int .i64 la) ∧ V.cell? ⟨g, o + j * 3 + 2, none⟩ = some (.int .u64 wo)) V0 := SS.out V0 X.out
      clear L6 K6 RR6 HY HX
      refine wpAnyG_take [14] (some 49) (i := 0) (v := ?vb0) rfl rfl (by kernel_rfl) (by kernel_rfl) (by kernel_rfl) (by kernel_rfl) (fun _ _ _ h => h) (Or.inl ⟨by rfl, ?yb0⟩) S9 ?rb0
      case yb0 => (intro V hSV; obtain ⟨d0, d1, d2, d3, d4, d5, d6, d7, d8, d9⟩ := hSV; go_simp; try with_reducible rfl)
      simp only [Act.put, List.setIfInBounds_toArray, List.set_cons_zero, List.set_cons_succ]
      refine wpAnyG_take [14] (some 50) (i := 1) (v := ?vb1) rfl rfl (by kernel_rfl) (by kernel_rfl) (by kernel_rfl) (by kernel_rfl) (fun _ _ _ h => h) (Or.inl ⟨by rfl, ?yb1⟩) S9 ?rb1
      case yb1 => (intro V hSV; obtain ⟨d0, d1, d2, d3, d4, d5, d6, d7, d8, d9⟩ := hSV; go_simp; try with_reducible rfl)
      simp only [Act.put, List.setIfInBounds_toArray, List.set_cons_zero, List.set_cons_succ]
      refine wpAnyG_take [14] (some 51) (i := 2) (v := ?vb2) rfl rfl (by kernel_rfl) (by kernel_rfl) (by kernel_rfl) (by kernel_rfl) (fun _ _ _ h => h) (Or.inl ⟨by rfl, ?yb2⟩) S9 ?rb2
      case yb2 => (intro V hSV; obtain ⟨d0, d1, d2, d3, d4, d5, d6, d7, d8, d9⟩ := hSV; go_simp; try with_reducible rfl)
      simp only [Act.put, List.setIfInBounds_toArray, List.set_cons_zero, List.set_cons_succ]
      refine wpAnyG_take [14] (some 52) (i := 3) (v := ?vb3) rfl rfl (by kernel_rfl) (by kernel_rfl) (by kernel_rfl) (by kernel_rfl) (fun _ _ _ h => h) (Or.inl ⟨by rfl, ?yb3⟩) S9 ?rb3
      case yb3 => (intro V hSV; obtain ⟨d0, d1, d2, d3, d4, d5, d6, d7, d8, d9⟩ := hSV; go_simp; try with_reducible rfl)
      simp only [Act.put, List.setIfInBounds_toArray, List.set_cons_zero, List.set_cons_succ]
      refine wpAnyG_take [14] (some 53) (i := 4) (v := ?vb4) rfl rfl (by kernel_rfl) (by kernel_rfl) (by kernel_rfl) (by kernel_rfl) (fun _ _ _ h => h) (Or.inl ⟨by rfl, ?yb4⟩) S9 ?rb4
      case yb4 => (intro V hSV; obtain ⟨d0, d1, d2, d3, d4, d5, d6, d7, d8, d9⟩ := hSV; go_simp; try with_reducible rfl)
      simp only [Act.put, List.setIfInBounds_toArray, List.set_cons_zero, List.set_cons_succ]
      clear S9
      refine wpAnyG_any [5, 10, 11] (by kernel_rfl) (by rfl) ?_
      intro i hi
      rcases mem3 hi with rfl | rfl | rfl
      · clear hi
        refine wpOpG (i := 5) rfl (fun K hK => ?_)
        go_simp
        with_reducible refine (RSC.out V0 X.out).mono ?_
        rintro e VX ⟨rv, rfl, r0, hbx, sx⟩
        obtain ⟨b1, b2, b3, b4, e1, e2, e3, e4, ev, -, -, -⟩ := r0.at_
        unfold lsv at ev
        subst ev
        have X2 : Hid (Below v6.heap.size v6 VX) := X.out.trans ((hbx).mono X.out.size)
        have RV2 : Hid (RefIn VX (.agg #[.int .i64 (S2.n : Int), .int .i64 (S2.d : Int), .int .i64 (S2.r : Int), .slice b1 S2.cr.length e1, .slice b2 S2.ws.length e2, .slice b3 S2.far.length e3, .slice b4 S2.bk.length e4]) S2) := r0
        have SRC : Hid (∀ g', Vb (.agg #[.int .i64 (S2.n : Int), .int .i64 (S2.d : Int), .int .i64 (S2.r : Int), .slice b1 S2.cr.length e1, .slice b2 S2.ws.length e2, .slice b3 S2.far.length e3, .slice b4 S2.bk.length e4]) g' → Vb (.agg #[.int .i64 (S.n : Int), .int .i64 (S.d : Int), .int .i64 (S.r : Int), .slice a1 S.cr.length c1, .slice a2 S.ws.length c2, .slice a3 S.far.length c3, .slice a4 S.bk.length c4]) g' ∨ v6.heap.size ≤ g') := show ∀ g', Vb (.agg #[.int .i64 (S2.n : Int), .int .i64 (S2.d : Int), .int .i64 (S2.r : Int), .slice b1 S2.cr.length e1, .slice b2 S2.ws.length e2, .slice b3 S2.far.length e3, .slice b4 S2.bk.length e4]) g' → Vb (.agg #[.int .i64 (S.n : Int), .int .i64 (S.d : Int), .int .i64 (S.r : Int), .slice a1 S.cr.length c1, .slice a2 S.ws.length c2, .slice a3 S.far.length c3, .slice a4 S.bk.length c4]) g' ∨ v6.heap.size ≤ g' from fun g' hg' => (sx g' hg').elim Or.inl fun h => Or.inr (Nat.le_trans X.out.size h.1)
        refine hK.out _ _ (Or.inr (SS.out _ X2.out)) ?_
        clear hK K hbx r0 sx X
        have RV := RV2
        clear RV2
        have X := X2
        clear X2
        generalize VX = V9 at *
        try simp only [Act.put, List.setIfInBounds_toArray, List.set_cons_zero, List.set_cons_succ]
        have S9 : (fun V : World => V.cell? ⟨rb, 0, none⟩ = some (.int .i64 (S.n : Int)) ∧ V.cell? ⟨rb, 1, none⟩ = some (.int .i64 (S.d : Int)) ∧ V.cell? ⟨rb, 2, none⟩ = some (.int .i64 (S.r : Int)) ∧ V.cell? ⟨rb, 3, none⟩ = some (.slice a1 S.cr.length c1) ∧ V.cell? ⟨rb, 4, none⟩ = some (.slice a2 S.ws.length c2) ∧ V.cell? ⟨rb, 5, none⟩ = some (.slice a3 S.far.length c3) ∧ V.cell? ⟨rb, 6, none⟩ = some (.slice a4 S.bk.length c4) ∧ V.cell? ⟨g, o + j * 3, none⟩ = some (.int .i64 kd) ∧ V.cell? ⟨g, o + j * 3 + 1, none⟩ = some (.int .i64 la) ∧ V.cell? ⟨g, o + j * 3 + 2, none⟩ = some (.int .u64 wo)) V9 := SS.out _ X.out
        refine wpAnyG_take [14] (some 48) (i := 6) (v := ?vr96) rfl rfl (by kernel_rfl) (by kernel_rfl) (by kernel_rfl) (by kernel_rfl) (fun _ _ _ h => h) (Or.inl ⟨by rfl, ?yr96⟩) S9 ?rr96
        case yr96 => (intro V hSV; obtain ⟨d0, d1, d2, d3, d4, d5, d6, d7, d8, d9⟩ := hSV; go_simp; try with_reducible rfl)
        simp only [Act.put, List.setIfInBounds_toArray, List.set_cons_zero, List.set_cons_succ]
        refine wpAnyG_take [14] (some 55) (i := 7) (v := ?vr97) rfl rfl (by kernel_rfl) (by kernel_rfl) (by kernel_rfl) (by kernel_rfl) (fun _ _ _ h => h) (Or.inl ⟨by rfl, ?yr97⟩) S9 ?rr97
        case yr97 => (intro V hSV; obtain ⟨d0, d1, d2, d3, d4, d5, d6, d7, d8, d9⟩ := hSV; go_simp; try with_reducible rfl)
        simp only [Act.put, List.setIfInBounds_toArray, List.set_cons_zero, List.set_cons_succ]
        refine wpAnyG_take [14] (some 56) (i := 8) (v := ?vr98) rfl rfl (by kernel_rfl) (by kernel_rfl) (by kernel_rfl) (by kernel_rfl) (fun _ _ _ h => h) (Or.inl ⟨by rfl, ?yr98⟩) S9 ?rr98
        case yr98 => (intro V hSV; obtain ⟨d0, d1, d2, d3, d4, d5, d6, d7, d8, d9⟩ := hSV; go_simp; try with_reducible rfl)
        simp only [Act.put, List.setIfInBounds_toArray, List.set_cons_zero, List.set_cons_succ]
        refine wpAnyG_take [14] (some 57) (i := 9) (v := ?vr99) rfl rfl (by kernel_rfl) (by kernel_rfl) (by kernel_rfl) (by kernel_rfl) (fun _ _ _ h => h) (Or.inl ⟨by rfl, ?yr99⟩) S9 ?rr99
        case yr99 => (intro V hSV; obtain ⟨d0, d1, d2, d3, d4, d5, d6, d7, d8, d9⟩ := hSV; go_simp; try with_reducible rfl)
        simp only [Act.put, List.setIfInBounds_toArray, List.set_cons_zero, List.set_cons_succ]
        clear S9
        refine wpAnyG_any [10, 11] (by kernel_rfl) (by rfl) ?_
        intro i hi
        rcases mem2 hi with rfl | rfl
        · clear hi
          refine wpOpG (i := 10) rfl (fun K hK => ?_)
          go_simp
          have X2 : Hid (Below v6.heap.size v6 (V9.alloc (.cells lz 30))) := X.out.trans (((Below.refl V9.heap.size V9).alloc (Nat.le_refl _) (.cells lz 30)).mono X.out.size)
          have RV2 : Hid (RefIn (V9.alloc (.cells lz 30)) (.agg #[.int .i64 (S2.n : Int), .int .i64 (S2.d : Int), .int .i64 (S2.r : Int), .slice b1 S2.cr.length e1, .slice b2 S2.ws.length e2, .slice b3 S2.far.length e3, .slice b4 S2.bk.length e4]) S2) := RV.out.below ((Below.refl V9.heap.size V9).alloc (Nat.le_refl _) (.cells lz 30))
          have KN2 : Hid (Bk (V9.alloc (.cells lz 30)) V9.heap.size lz 30) := Bk.new _ _ _
          have hnb : v6.heap.size ≤ V9.heap.size := X.out.size
          have NKN : Hid (∀ g', Vb (.agg #[.int .i64 (S2.n : Int), .int .i64 (S2.d : Int), .int .i64 (S2.r : Int), .slice b1 S2.cr.length e1, .slice b2 S2.ws.length e2, .slice b3 S2.far.length e3, .slice b4 S2.bk.length e4]) g' → g' ≠ V9.heap.size) := show ∀ g', Vb (.agg #[.int .i64 (S2.n : Int), .int .i64 (S2.d : Int), .int .i64 (S2.r : Int), .slice b1 S2.cr.length e1, .slice b2 S2.ws.length e2, .slice b3 S2.far.length e3, .slice b4 S2.bk.length e4]) g' → g' ≠ V9.heap.size from fun g' hg' => by have := RV.out.lt g' hg'; omega
          refine hK.out _ _ (Or.inr (SS.out _ X2.out)) ?_
          clear hK K X RV
          have KN := KN2
          clear KN2
          have RV := RV2
          clear RV2
          have X := X2
          clear X2
          generalize (V9.alloc (.cells lz 30)) = V10 at *
          generalize V9.heap.size = nb at *
          try simp only [Act.put, List.setIfInBounds_toArray, List.set_cons_zero, List.set_cons_succ]
          refine wpAnyG_one (i := 11) (by kernel_rfl) rfl (fun K hK => ?_)
          go_simp
          have X2 : Hid (Below v6.heap.size v6 (V10.alloc (.cells #[.int .i64 0, .int .u64 0] 35))) := X.out.trans (((Below.refl V10.heap.size V10).alloc (Nat.le_refl _) (.cells #[.int .i64 0, .int .u64 0] 35)).mono X.out.size)
          have KN2 : Hid (Bk (V10.alloc (.cells #[.int .i64 0, .int .u64 0] 35)) nb lz 30) := KN.out.next ((Below.refl V10.heap.size V10).alloc (Nat.le_refl _) (.cells #[.int .i64 0, .int .u64 0] 35))
          have RV2 : Hid (RefIn (V10.alloc (.cells #[.int .i64 0, .int .u64 0] 35)) (.agg #[.int .i64 (S2.n : Int), .int .i64 (S2.d : Int), .int .i64 (S2.r : Int), .slice b1 S2.cr.length e1, .slice b2 S2.ws.length e2, .slice b3 S2.far.length e3, .slice b4 S2.bk.length e4]) S2) := RV.out.below ((Below.refl V10.heap.size V10).alloc (Nat.le_refl _) (.cells #[.int .i64 0, .int .u64 0] 35))
          have KC2 : Hid (Bk (V10.alloc (.cells #[.int .i64 0, .int .u64 0] 35)) V10.heap.size #[.int .i64 0, .int .u64 0] 35) := Bk.new _ _ _
          have hcb2 : v6.heap.size ≤ V10.heap.size := X.out.size
          have NKC : Hid (∀ g', Vb (.agg #[.int .i64 (S2.n : Int), .int .i64 (S2.d : Int), .int .i64 (S2.r : Int), .slice b1 S2.cr.length e1, .slice b2 S2.ws.length e2, .slice b3 S2.far.length e3, .slice b4 S2.bk.length e4]) g' → g' ≠ V10.heap.size) := show ∀ g', Vb (.agg #[.int .i64 (S2.n : Int), .int .i64 (S2.d : Int), .int .i64 (S2.r : Int), .slice b1 S2.cr.length e1, .slice b2 S2.ws.length e2, .slice b3 S2.far.length e3, .slice b4 S2.bk.length e4]) g' → g' ≠ V10.heap.size from fun g' hg' => by have := RV.out.lt g' hg'; omega
          have NEC : Hid (nb ≠ V10.heap.size) := show nb ≠ V10.heap.size from by have := KN.out.lt; omega
          refine hK.out _ _ (Or.inr (SS.out _ X2.out)) ?_
          clear hK K X KN RV
          have KC := KC2
          clear KC2
          have KN := KN2
          clear KN2
          have RV := RV2
          clear RV2
          have X := X2
          clear X2
          generalize (V10.alloc (.cells #[.int .i64 0, .int .u64 0] 35)) = V11 at *
          generalize V10.heap.size = cb2 at *
          try simp only [Act.put, List.setIfInBounds_toArray, List.set_cons_zero, List.set_cons_succ]
          have m0 := KN.out.cell 0
          have m1 := KN.out.cell 1
          have m2 := KN.out.cell 2
          have m3 := KN.out.cell 3
          have m4 := KN.out.cell 4
          have m5 := KN.out.cell 5
          have m6 := KN.out.cell 6
          simp only [List.getElem?_toArray, List.getElem?_cons_zero, List.getElem?_cons_succ] at m0 m1 m2 m3 m4 m5 m6
          have z0 := KN.out.free 0
          have z1 := KN.out.free 1
          have z2 := KN.out.free 2
          have z3 := KN.out.free 3
          have z4 := KN.out.free 4
          have z5 := KN.out.free 5
          have z6 := KN.out.free 6
          refine wpAnyG_one (i := 12) (by kernel_rfl) rfl (fun K hK => ?_)
          go_simp
          have X7 : Hid (Below v6.heap.size v6 ((((((((V11.setCell ⟨nb, 0, none⟩ (.int .i64 (S2.n : Int))).setCell ⟨nb, 1, none⟩ (.int .i64 (S2.d : Int))).setCell ⟨nb, 2, none⟩ (.int .i64 (S2.r : Int))).setCell ⟨nb, 3, none⟩ (.slice b1 S2.cr.length e1)).setCell ⟨nb, 4, none⟩ (.slice b2 S2.ws.length e2)).setCell ⟨nb, 5, none⟩ (.slice b3 S2.far.length e3)).setCell ⟨nb, 6, none⟩ (.slice b4 S2.bk.length e4)))) := below_seven X.out hnb _ _ _ _ _ _ _
          have N7 : Hid (Bk ((((((((V11.setCell ⟨nb, 0, none⟩ (.int .i64 (S2.n : Int))).setCell ⟨nb, 1, none⟩ (.int .i64 (S2.d : Int))).setCell ⟨nb, 2, none⟩ (.int .i64 (S2.r : Int))).setCell ⟨nb, 3, none⟩ (.slice b1 S2.cr.length e1)).setCell ⟨nb, 4, none⟩ (.slice b2 S2.ws.length e2)).setCell ⟨nb, 5, none⟩ (.slice b3 S2.far.length e3)).setCell ⟨nb, 6, none⟩ (.slice b4 S2.bk.length e4))) nb #[.int .i64 (S2.n : Int), .int .i64 (S2.d : Int), .int .i64 (S2.r : Int), .slice b1 S2.cr.length e1, .slice b2 S2.ws.length e2, .slice b3 S2.far.length e3, .slice b4 S2.bk.length e4] 30) := seven_at KN.out _ _ _ _ _ _ _
          have C7 : Hid (Bk ((((((((V11.setCell ⟨nb, 0, none⟩ (.int .i64 (S2.n : Int))).setCell ⟨nb, 1, none⟩ (.int .i64 (S2.d : Int))).setCell ⟨nb, 2, none⟩ (.int .i64 (S2.r : Int))).setCell ⟨nb, 3, none⟩ (.slice b1 S2.cr.length e1)).setCell ⟨nb, 4, none⟩ (.slice b2 S2.ws.length e2)).setCell ⟨nb, 5, none⟩ (.slice b3 S2.far.length e3)).setCell ⟨nb, 6, none⟩ (.slice b4 S2.bk.length e4))) cb2 #[.int .i64 0, .int .u64 0] 35) := seven_far KC.out (fun e => NEC.out e.symm) _ _ _ _ _ _ _
          have NV : ¬ Vb (.agg #[.int .i64 (S2.n : Int), .int .i64 (S2.d : Int), .int .i64 (S2.r : Int), .slice b1 S2.cr.length e1, .slice b2 S2.ws.length e2, .slice b3 S2.far.length e3, .slice b4 S2.bk.length e4]) nb := fun h => NKN.out nb h rfl
          have R7 : Hid (RefIn ((((((((V11.setCell ⟨nb, 0, none⟩ (.int .i64 (S2.n : Int))).setCell ⟨nb, 1, none⟩ (.int .i64 (S2.d : Int))).setCell ⟨nb, 2, none⟩ (.int .i64 (S2.r : Int))).setCell ⟨nb, 3, none⟩ (.slice b1 S2.cr.length e1)).setCell ⟨nb, 4, none⟩ (.slice b2 S2.ws.length e2)).setCell ⟨nb, 5, none⟩ (.slice b3 S2.far.length e3)).setCell ⟨nb, 6, none⟩ (.slice b4 S2.bk.length e4))) (.agg #[.int .i64 (S2.n : Int), .int .i64 (S2.d : Int), .int .i64 (S2.r : Int), .slice b1 S2.cr.length e1, .slice b2 S2.ws.length e2, .slice b3 S2.far.length e3, .slice b4 S2.bk.length e4]) S2) := ((((((RV.out.far NV).far NV).far NV).far NV).far NV).far NV).far NV
          refine hK.out _ _ (Or.inr (SS.out _ X7.out)) ?_
          clear hK K z0 z1 z2 z3 z4 z5 z6 m0 m1 m2 m3 m4 m5 m6 X KN KC RV NV
          generalize (((((((V11.setCell ⟨nb, 0, none⟩ (.int .i64 (S2.n : Int))).setCell ⟨nb, 1, none⟩ (.int .i64 (S2.d : Int))).setCell ⟨nb, 2, none⟩ (.int .i64 (S2.r : Int))).setCell ⟨nb, 3, none⟩ (.slice b1 S2.cr.length e1)).setCell ⟨nb, 4, none⟩ (.slice b2 S2.ws.length e2)).setCell ⟨nb, 5, none⟩ (.slice b3 S2.far.length e3)).setCell ⟨nb, 6, none⟩ (.slice b4 S2.bk.length e4)) = u7 at *
          try simp only [Act.put, List.setIfInBounds_toArray, List.set_cons_zero, List.set_cons_succ]
          have m0 := C7.out.cell 0
          have m1 := C7.out.cell 1
          simp only [List.getElem?_toArray, List.getElem?_cons_zero, List.getElem?_cons_succ] at m0 m1
          have z0 := C7.out.free 0
          have z1 := C7.out.free 1
          obtain ⟨cl, cw⟩ := cc1
          refine wpAnyG_one (i := 13) (by kernel_rfl) rfl (fun K hK => ?_)
          go_simp
          have X9 : Hid (Below v6.heap.size v6 (((u7.setCell ⟨cb2, 0, none⟩ (.int .i64 cl)).setCell ⟨cb2, 1, none⟩ (.int .u64 cw)))) := (X7.out.setCell hcb2 _).setCell hcb2 _
          have N9 : Hid (Bk (((u7.setCell ⟨cb2, 0, none⟩ (.int .i64 cl)).setCell ⟨cb2, 1, none⟩ (.int .u64 cw))) nb #[.int .i64 (S2.n : Int), .int .i64 (S2.d : Int), .int .i64 (S2.r : Int), .slice b1 S2.cr.length e1, .slice b2 S2.ws.length e2, .slice b3 S2.far.length e3, .slice b4 S2.bk.length e4] 30) := pair_far N7.out NEC.out _ _
          have C9 : Hid (Bk (((u7.setCell ⟨cb2, 0, none⟩ (.int .i64 cl)).setCell ⟨cb2, 1, none⟩ (.int .u64 cw))) cb2 #[.int .i64 cl, .int .u64 cw] 35) := pair_at C7.out _ _
          have NV : ¬ Vb (.agg #[.int .i64 (S2.n : Int), .int .i64 (S2.d : Int), .int .i64 (S2.r : Int), .slice b1 S2.cr.length e1, .slice b2 S2.ws.length e2, .slice b3 S2.far.length e3, .slice b4 S2.bk.length e4]) cb2 := fun h => NKC.out cb2 h rfl
          have R9 : Hid (RefIn (((u7.setCell ⟨cb2, 0, none⟩ (.int .i64 cl)).setCell ⟨cb2, 1, none⟩ (.int .u64 cw))) (.agg #[.int .i64 (S2.n : Int), .int .i64 (S2.d : Int), .int .i64 (S2.r : Int), .slice b1 S2.cr.length e1, .slice b2 S2.ws.length e2, .slice b3 S2.far.length e3, .slice b4 S2.bk.length e4]) S2) := (R7.out.far NV).far NV
          refine hK.out _ _ (Or.inr (SS.out _ X9.out)) ?_
          clear hK K z0 z1 m0 m1 X7 N7 C7 R7 NV
          generalize ((u7.setCell ⟨cb2, 0, none⟩ (.int .i64 cl)).setCell ⟨cb2, 1, none⟩ (.int .u64 cw)) = u9 at *
          try simp only [Act.put, List.setIfInBounds_toArray, List.set_cons_zero, List.set_cons_succ]
          refine wpAnyG_one (i := 14) (by kernel_rfl) rfl (fun K hK => ?_)
          go_simp
          refine hK.out _ _ (Or.inl (by kernel_rfl)) ?_
          refine wpAnyG_done (by kernel_rfl) ?_ _
          go_wp2
          go_meet
          exact ⟨nb, cb2, _, rfl, rfl, rfl, N9.out, R9.out, C9.out, X9.out, SRC.out⟩
        · clear hi
          refine wpOpG (i := 11) rfl (fun K hK => ?_)
          go_simp
          have X2 : Hid (Below v6.heap.size v6 (V9.alloc (.cells #[.int .i64 0, .int .u64 0] 35))) := X.out.trans (((Below.refl V9.heap.size V9).alloc (Nat.le_refl _) (.cells #[.int .i64 0, .int .u64 0] 35)).mono X.out.size)
          have RV2 : Hid (RefIn (V9.alloc (.cells #[.int .i64 0, .int .u64 0] 35)) (.agg #[.int .i64 (S2.n : Int), .int .i64 (S2.d : Int), .int .i64 (S2.r : Int), .slice b1 S2.cr.length e1, .slice b2 S2.ws.length e2, .slice b3 S2.far.length e3, .slice b4 S2.bk.length e4]) S2) := RV.out.below ((Below.refl V9.heap.size V9).alloc (Nat.le_refl _) (.cells #[.int .i64 0, .int .u64 0] 35))
          have KC2 : Hid (Bk (V9.alloc (.cells #[.int .i64 0, .int .u64 0] 35)) V9.heap.size #[.int .i64 0, .int .u64 0] 35) := Bk.new _ _ _
          have hcb2 : v6.heap.size ≤ V9.heap.size := X.out.size
          have NKC : Hid (∀ g', Vb (.agg #[.int .i64 (S2.n : Int), .int .i64 (S2.d : Int), .int .i64 (S2.r : Int), .slice b1 S2.cr.length e1, .slice b2 S2.ws.length e2, .slice b3 S2.far.length e3, .slice b4 S2.bk.length e4]) g' → g' ≠ V9.heap.size) := show ∀ g', Vb (.agg #[.int .i64 (S2.n : Int), .int .i64 (S2.d : Int), .int .i64 (S2.r : Int), .slice b1 S2.cr.length e1, .slice b2 S2.ws.length e2, .slice b3 S2.far.length e3, .slice b4 S2.bk.length e4]) g' → g' ≠ V9.heap.size from fun g' hg' => by have := RV.out.lt g' hg'; omega
          refine hK.out _ _ (Or.inr (SS.out _ X2.out)) ?_
          clear hK K X RV
          have KC := KC2
          clear KC2
          have RV := RV2
          clear RV2
          have X := X2
          clear X2
          generalize (V9.alloc (.cells #[.int .i64 0, .int .u64 0] 35)) = V12 at *
          generalize V9.heap.size = cb2 at *
          try simp only [Act.put, List.setIfInBounds_toArray, List.set_cons_zero, List.set_cons_succ]
          refine wpAnyG_one (i := 10) (by kernel_rfl) rfl (fun K hK => ?_)
          go_simp
          have X2 : Hid (Below v6.heap.size v6 (V12.alloc (.cells lz 30))) := X.out.trans (((Below.refl V12.heap.size V12).alloc (Nat.le_refl _) (.cells lz 30)).mono X.out.size)
          have KC2 : Hid (Bk (V12.alloc (.cells lz 30)) cb2 #[.int .i64 0, .int .u64 0] 35) := KC.out.next ((Below.refl V12.heap.size V12).alloc (Nat.le_refl _) (.cells lz 30))
          have RV2 : Hid (RefIn (V12.alloc (.cells lz 30)) (.agg #[.int .i64 (S2.n : Int), .int .i64 (S2.d : Int), .int .i64 (S2.r : Int), .slice b1 S2.cr.length e1, .slice b2 S2.ws.length e2, .slice b3 S2.far.length e3, .slice b4 S2.bk.length e4]) S2) := RV.out.below ((Below.refl V12.heap.size V12).alloc (Nat.le_refl _) (.cells lz 30))
          have KN2 : Hid (Bk (V12.alloc (.cells lz 30)) V12.heap.size lz 30) := Bk.new _ _ _
          have hnb : v6.heap.size ≤ V12.heap.size := X.out.size
          have NKN : Hid (∀ g', Vb (.agg #[.int .i64 (S2.n : Int), .int .i64 (S2.d : Int), .int .i64 (S2.r : Int), .slice b1 S2.cr.length e1, .slice b2 S2.ws.length e2, .slice b3 S2.far.length e3, .slice b4 S2.bk.length e4]) g' → g' ≠ V12.heap.size) := show ∀ g', Vb (.agg #[.int .i64 (S2.n : Int), .int .i64 (S2.d : Int), .int .i64 (S2.r : Int), .slice b1 S2.cr.length e1, .slice b2 S2.ws.length e2, .slice b3 S2.far.length e3, .slice b4 S2.bk.length e4]) g' → g' ≠ V12.heap.size from fun g' hg' => by have := RV.out.lt g' hg'; omega
          have NEC : Hid (V12.heap.size ≠ cb2) := show V12.heap.size ≠ cb2 from by have := KC.out.lt; omega
          refine hK.out _ _ (Or.inr (SS.out _ X2.out)) ?_
          clear hK K X KC RV
          have KC := KC2
          clear KC2
          have KN := KN2
          clear KN2
          have RV := RV2
          clear RV2
          have X := X2
          clear X2
          generalize (V12.alloc (.cells lz 30)) = V13 at *
          generalize V12.heap.size = nb at *
          try simp only [Act.put, List.setIfInBounds_toArray, List.set_cons_zero, List.set_cons_succ]
          have m0 := KN.out.cell 0
          have m1 := KN.out.cell 1
          have m2 := KN.out.cell 2
          have m3 := KN.out.cell 3
          have m4 := KN.out.cell 4
          have m5 := KN.out.cell 5
          have m6 := KN.out.cell 6
          simp only [List.getElem?_toArray, List.getElem?_cons_zero, List.getElem?_cons_succ] at m0 m1 m2 m3 m4 m5 m6
          have z0 := KN.out.free 0
          have z1 := KN.out.free 1
          have z2 := KN.out.free 2
          have z3 := KN.out.free 3
          have z4 := KN.out.free 4
          have z5 := KN.out.free 5
          have z6 := KN.out.free 6
          refine wpAnyG_one (i := 12) (by kernel_rfl) rfl (fun K hK => ?_)
          go_simp
          have X7 : Hid (Below v6.heap.size v6 ((((((((V13.setCell ⟨nb, 0, none⟩ (.int .i64 (S2.n : Int))).setCell ⟨nb, 1, none⟩ (.int .i64 (S2.d : Int))).setCell ⟨nb, 2, none⟩ (.int .i64 (S2.r : Int))).setCell ⟨nb, 3, none⟩ (.slice b1 S2.cr.length e1)).setCell ⟨nb, 4, none⟩ (.slice b2 S2.ws.length e2)).setCell ⟨nb, 5, none⟩ (.slice b3 S2.far.length e3)).setCell ⟨nb, 6, none⟩ (.slice b4 S2.bk.length e4)))) := below_seven X.out hnb _ _ _ _ _ _ _
          have N7 : Hid (Bk ((((((((V13.setCell ⟨nb, 0, none⟩ (.int .i64 (S2.n : Int))).setCell ⟨nb, 1, none⟩ (.int .i64 (S2.d : Int))).setCell ⟨nb, 2, none⟩ (.int .i64 (S2.r : Int))).setCell ⟨nb, 3, none⟩ (.slice b1 S2.cr.length e1)).setCell ⟨nb, 4, none⟩ (.slice b2 S2.ws.length e2)).setCell ⟨nb, 5, none⟩ (.slice b3 S2.far.length e3)).setCell ⟨nb, 6, none⟩ (.slice b4 S2.bk.length e4))) nb #[.int .i64 (S2.n : Int), .int .i64 (S2.d : Int), .int .i64 (S2.r : Int), .slice b1 S2.cr.length e1, .slice b2 S2.ws.length e2, .slice b3 S2.far.length e3, .slice b4 S2.bk.length e4] 30) := seven_at KN.out _ _ _ _ _ _ _
          have C7 : Hid (Bk ((((((((V13.setCell ⟨nb, 0, none⟩ (.int .i64 (S2.n : Int))).setCell ⟨nb, 1, none⟩ (.int .i64 (S2.d : Int))).setCell ⟨nb, 2, none⟩ (.int .i64 (S2.r : Int))).setCell ⟨nb, 3, none⟩ (.slice b1 S2.cr.length e1)).setCell ⟨nb, 4, none⟩ (.slice b2 S2.ws.length e2)).setCell ⟨nb, 5, none⟩ (.slice b3 S2.far.length e3)).setCell ⟨nb, 6, none⟩ (.slice b4 S2.bk.length e4))) cb2 #[.int .i64 0, .int .u64 0] 35) := seven_far KC.out (fun e => NEC.out e.symm) _ _ _ _ _ _ _
          have NV : ¬ Vb (.agg #[.int .i64 (S2.n : Int), .int .i64 (S2.d : Int), .int .i64 (S2.r : Int), .slice b1 S2.cr.length e1, .slice b2 S2.ws.length e2, .slice b3 S2.far.length e3, .slice b4 S2.bk.length e4]) nb := fun h => NKN.out nb h rfl
          have R7 : Hid (RefIn ((((((((V13.setCell ⟨nb, 0, none⟩ (.int .i64 (S2.n : Int))).setCell ⟨nb, 1, none⟩ (.int .i64 (S2.d : Int))).setCell ⟨nb, 2, none⟩ (.int .i64 (S2.r : Int))).setCell ⟨nb, 3, none⟩ (.slice b1 S2.cr.length e1)).setCell ⟨nb, 4, none⟩ (.slice b2 S2.ws.length e2)).setCell ⟨nb, 5, none⟩ (.slice b3 S2.far.length e3)).setCell ⟨nb, 6, none⟩ (.slice b4 S2.bk.length e4))) (.agg #[.int .i64 (S2.n : Int), .int .i64 (S2.d : Int), .int .i64 (S2.r : Int), .slice b1 S2.cr.length e1, .slice b2 S2.ws.length e2, .slice b3 S2.far.length e3, .slice b4 S2.bk.length e4]) S2) := ((((((RV.out.far NV).far NV).far NV).far NV).far NV).far NV).far NV
          refine hK.out _ _ (Or.inr (SS.out _ X7.out)) ?_
          clear hK K z0 z1 z2 z3 z4 z5 z6 m0 m1 m2 m3 m4 m5 m6 X KN KC RV NV
          generalize (((((((V13.setCell ⟨nb, 0, none⟩ (.int .i64 (S2.n : Int))).setCell ⟨nb, 1, none⟩ (.int .i64 (S2.d : Int))).setCell ⟨nb, 2, none⟩ (.int .i64 (S2.r : Int))).setCell ⟨nb, 3, none⟩ (.slice b1 S2.cr.length e1)).setCell ⟨nb, 4, none⟩ (.slice b2 S2.ws.length e2)).setCell ⟨nb, 5, none⟩ (.slice b3 S2.far.length e3)).setCell ⟨nb, 6, none⟩ (.slice b4 S2.bk.length e4)) = u7 at *
          try simp only [Act.put, List.setIfInBounds_toArray, List.set_cons_zero, List.set_cons_succ]
          have m0 := C7.out.cell 0
          have m1 := C7.out.cell 1
          simp only [List.getElem?_toArray, List.getElem?_cons_zero, List.getElem?_cons_succ] at m0 m1
          have z0 := C7.out.free 0
          have z1 := C7.out.free 1
          obtain ⟨cl, cw⟩ := cc1
          refine wpAnyG_one (i := 13) (by kernel_rfl) rfl (fun K hK => ?_)
          go_simp
          have X9 : Hid (Below v6.heap.size v6 (((u7.setCell ⟨cb2, 0, none⟩ (.int .i64 cl)).setCell ⟨cb2, 1, none⟩ (.int .u64 cw)))) := (X7.out.setCell hcb2 _).setCell hcb2 _
          have N9 : Hid (Bk (((u7.setCell ⟨cb2, 0, none⟩ (.int .i64 cl)).setCell ⟨cb2, 1, none⟩ (.int .u64 cw))) nb #[.int .i64 (S2.n : Int), .int .i64 (S2.d : Int), .int .i64 (S2.r : Int), .slice b1 S2.cr.length e1, .slice b2 S2.ws.length e2, .slice b3 S2.far.length e3, .slice b4 S2.bk.length e4] 30) := pair_far N7.out NEC.out _ _
          have C9 : Hid (Bk (((u7.setCell ⟨cb2, 0, none⟩ (.int .i64 cl)).setCell ⟨cb2, 1, none⟩ (.int .u64 cw))) cb2 #[.int .i64 cl, .int .u64 cw] 35) := pair_at C7.out _ _
          have NV : ¬ Vb (.agg #[.int .i64 (S2.n : Int), .int .i64 (S2.d : Int), .int .i64 (S2.r : Int), .slice b1 S2.cr.length e1, .slice b2 S2.ws.length e2, .slice b3 S2.far.length e3, .slice b4 S2.bk.length e4]) cb2 := fun h => NKC.out cb2 h rfl
          have R9 : Hid (RefIn (((u7.setCell ⟨cb2, 0, none⟩ (.int .i64 cl)).setCell ⟨cb2, 1, none⟩ (.int .u64 cw))) (.agg #[.int .i64 (S2.n : Int), .int .i64 (S2.d : Int), .int .i64 (S2.r : Int), .slice b1 S2.cr.length e1, .slice b2 S2.ws.length e2, .slice b3 S2.far.length e3, .slice b4 S2.bk.length e4]) S2) := (R7.out.far NV).far NV
          refine hK.out _ _ (Or.inr (SS.out _ X9.out)) ?_
          clear hK K z0 z1 m0 m1 X7 N7 C7 R7 NV
          generalize ((u7.setCell ⟨cb2, 0, none⟩ (.int .i64 cl)).setCell ⟨cb2, 1, none⟩ (.int .u64 cw)) = u9 at *
          try simp only [Act.put, List.setIfInBounds_toArray, List.set_cons_zero, List.set_cons_succ]
          refine wpAnyG_one (i := 14) (by kernel_rfl) rfl (fun K hK => ?_)
          go_simp
          refine hK.out _ _ (Or.inl (by kernel_rfl)) ?_
          refine wpAnyG_done (by kernel_rfl) ?_ _
          go_wp2
          go_meet
          exact ⟨nb, cb2, _, rfl, rfl, rfl, N9.out, R9.out, C9.out, X9.out, SRC.out⟩
      · clear hi
        refine wpOpG (i := 10) rfl (fun K hK => ?_)
        go_simp
        have X2 : Hid (Below v6.heap.size v6 (V0.alloc (.cells lz 30))) := X.out.trans (((Below.refl V0.heap.size V0).alloc (Nat.le_refl _) (.cells lz 30)).mono X.out.size)
        have KN2 : Hid (Bk (V0.alloc (.cells lz 30)) V0.heap.size lz 30) := Bk.new _ _ _
        have hnb : v6.heap.size ≤ V0.heap.size := X.out.size
        refine hK.out _ _ (Or.inr (SS.out _ X2.out)) ?_
        clear hK K X
        have KN := KN2
        clear KN2
        have X := X2
        clear X2
        generalize (V0.alloc (.cells lz 30)) = V14 at *
        generalize V0.heap.size = nb at *
        try simp only [Act.put, List.setIfInBounds_toArray, List.set_cons_zero, List.set_cons_succ]
        refine wpAnyG_any [5, 11] (by kernel_rfl) (by rfl) ?_
        intro i hi
        rcases mem2 hi with rfl | rfl
        · clear hi
          refine wpOpG (i := 5) rfl (fun K hK => ?_)
          go_simp
          with_reducible refine (RSC.out V14 X.out).mono ?_
          rintro e VX ⟨rv, rfl, r0, hbx, sx⟩
          obtain ⟨b1, b2, b3, b4, e1, e2, e3, e4, ev, -, -, -⟩ := r0.at_
          unfold lsv at ev
          subst ev
          have X2 : Hid (Below v6.heap.size v6 VX) := X.out.trans ((hbx).mono X.out.size)
          have KN2 : Hid (Bk VX nb lz 30) := KN.out.next (hbx)
          have RV2 : Hid (RefIn VX (.agg #[.int .i64 (S2.n : Int), .int .i64 (S2.d : Int), .int .i64 (S2.r : Int), .slice b1 S2.cr.length e1, .slice b2 S2.ws.length e2, .slice b3 S2.far.length e3, .slice b4 S2.bk.length e4]) S2) := r0
          have SRC : Hid (∀ g', Vb (.agg #[.int .i64 (S2.n : Int), .int .i64 (S2.d : Int), .int .i64 (S2.r : Int), .slice b1 S2.cr.length e1, .slice b2 S2.ws.length e2, .slice b3 S2.far.length e3, .slice b4 S2.bk.length e4]) g' → Vb (.agg #[.int .i64 (S.n : Int), .int .i64 (S.d : Int), .int .i64 (S.r : Int), .slice a1 S.cr.length c1, .slice a2 S.ws.length c2, .slice a3 S.far.length c3, .slice a4 S.bk.length c4]) g' ∨ v6.heap.size ≤ g') := show ∀ g', Vb (.agg #[.int .i64 (S2.n : Int), .int .i64 (S2.d : Int), .int .i64 (S2.r : Int), .slice b1 S2.cr.length e1, .slice b2 S2.ws.length e2, .slice b3 S2.far.length e3, .slice b4 S2.bk.length e4]) g' → Vb (.agg #[.int .i64 (S.n : Int), .int .i64 (S.d : Int), .int .i64 (S.r : Int), .slice a1 S.cr.length c1, .slice a2 S.ws.length c2, .slice a3 S.far.length c3, .slice a4 S.bk.length c4]) g' ∨ v6.heap.size ≤ g' from fun g' hg' => (sx g' hg').elim Or.inl fun h => Or.inr (Nat.le_trans X.out.size h.1)
          have NKN : Hid (∀ g', Vb (.agg #[.int .i64 (S2.n : Int), .int .i64 (S2.d : Int), .int .i64 (S2.r : Int), .slice b1 S2.cr.length e1, .slice b2 S2.ws.length e2, .slice b3 S2.far.length e3, .slice b4 S2.bk.length e4]) g' → g' ≠ nb) := show ∀ g', Vb (.agg #[.int .i64 (S2.n : Int), .int .i64 (S2.d : Int), .int .i64 (S2.r : Int), .slice b1 S2.cr.length e1, .slice b2 S2.ws.length e2, .slice b3 S2.far.length e3, .slice b4 S2.bk.length e4]) g' → g' ≠ nb from fun g' hg' => by
            have h1 := KN.out.lt
            rcases sx g' hg' with h | h
            · have h2 := LTV.out g' h
              omega
            · omega
          refine hK.out _ _ (Or.inr (SS.out _ X2.out)) ?_
          clear hK K hbx r0 sx X KN
          have KN := KN2
          clear KN2
          have RV := RV2
          clear RV2
          have X := X2
          clear X2
          generalize VX = V15 at *
          try simp only [Act.put, List.setIfInBounds_toArray, List.set_cons_zero, List.set_cons_succ]
          have S9 : (fun V : World => V.cell? ⟨rb, 0, none⟩ = some (.int .i64 (S.n : Int)) ∧ V.cell? ⟨rb, 1, none⟩ = some (.int .i64 (S.d : Int)) ∧ V.cell? ⟨rb, 2, none⟩ = some (.int .i64 (S.r : Int)) ∧ V.cell? ⟨rb, 3, none⟩ = some (.slice a1 S.cr.length c1) ∧ V.cell? ⟨rb, 4, none⟩ = some (.slice a2 S.ws.length c2) ∧ V.cell? ⟨rb, 5, none⟩ = some (.slice a3 S.far.length c3) ∧ V.cell? ⟨rb, 6, none⟩ = some (.slice a4 S.bk.length c4) ∧ V.cell? ⟨g, o + j * 3, none⟩ = some (.int .i64 kd) ∧ V.cell? ⟨g, o + j * 3 + 1, none⟩ = some (.int .i64 la) ∧ V.cell? ⟨g, o + j * 3 + 2, none⟩ = some (.int .u64 wo)) V15 := SS.out _ X.out
          refine wpAnyG_take [14] (some 48) (i := 6) (v := ?vr156) rfl rfl (by kernel_rfl) (by kernel_rfl) (by kernel_rfl) (by kernel_rfl) (fun _ _ _ h => h) (Or.inl ⟨by rfl, ?yr156⟩) S9 ?rr156
          case yr156 => (intro V hSV; obtain ⟨d0, d1, d2, d3, d4, d5, d6, d7, d8, d9⟩ := hSV; go_simp; try with_reducible rfl)
          simp only [Act.put, List.setIfInBounds_toArray, List.set_cons_zero, List.set_cons_succ]
          refine wpAnyG_take [14] (some 55) (i := 7) (v := ?vr157) rfl rfl (by kernel_rfl) (by kernel_rfl) (by kernel_rfl) (by kernel_rfl) (fun _ _ _ h => h) (Or.inl ⟨by rfl, ?yr157⟩) S9 ?rr157
          case yr157 => (intro V hSV; obtain ⟨d0, d1, d2, d3, d4, d5, d6, d7, d8, d9⟩ := hSV; go_simp; try with_reducible rfl)
          simp only [Act.put, List.setIfInBounds_toArray, List.set_cons_zero, List.set_cons_succ]
          refine wpAnyG_take [14] (some 56) (i := 8) (v := ?vr158) rfl rfl (by kernel_rfl) (by kernel_rfl) (by kernel_rfl) (by kernel_rfl) (fun _ _ _ h => h) (Or.inl ⟨by rfl, ?yr158⟩) S9 ?rr158
          case yr158 => (intro V hSV; obtain ⟨d0, d1, d2, d3, d4, d5, d6, d7, d8, d9⟩ := hSV; go_simp; try with_reducible rfl)
          simp only [Act.put, List.setIfInBounds_toArray, List.set_cons_zero, List.set_cons_succ]
          refine wpAnyG_take [14] (some 57) (i := 9) (v := ?vr159) rfl rfl (by kernel_rfl) (by kernel_rfl) (by kernel_rfl) (by kernel_rfl) (fun _ _ _ h => h) (Or.inl ⟨by rfl, ?yr159⟩) S9 ?rr159
          case yr159 => (intro V hSV; obtain ⟨d0, d1, d2, d3, d4, d5, d6, d7, d8, d9⟩ := hSV; go_simp; try with_reducible rfl)
          simp only [Act.put, List.setIfInBounds_toArray, List.set_cons_zero, List.set_cons_succ]
          clear S9
          refine wpAnyG_one (i := 11) (by kernel_rfl) rfl (fun K hK => ?_)
          go_simp
          have X2 : Hid (Below v6.heap.size v6 (V15.alloc (.cells #[.int .i64 0, .int .u64 0] 35))) := X.out.trans (((Below.refl V15.heap.size V15).alloc (Nat.le_refl _) (.cells #[.int .i64 0, .int .u64 0] 35)).mono X.out.size)
          have KN2 : Hid (Bk (V15.alloc (.cells #[.int .i64 0, .int .u64 0] 35)) nb lz 30) := KN.out.next ((Below.refl V15.heap.size V15).alloc (Nat.le_refl _) (.cells #[.int .i64 0, .int .u64 0] 35))
          have RV2 : Hid (RefIn (V15.alloc (.cells #[.int .i64 0, .int .u64 0] 35)) (.agg #[.int .i64 (S2.n : Int), .int .i64 (S2.d : Int), .int .i64 (S2.r : Int), .slice b1 S2.cr.length e1, .slice b2 S2.ws.length e2, .slice b3 S2.far.length e3, .slice b4 S2.bk.length e4]) S2) := RV.out.below ((Below.refl V15.heap.size V15).alloc (Nat.le_refl _) (.cells #[.int .i64 0, .int .u64 0] 35))
          have KC2 : Hid (Bk (V15.alloc (.cells #[.int .i64 0, .int .u64 0] 35)) V15.heap.size #[.int .i64 0, .int .u64 0] 35) := Bk.new _ _ _
          have hcb2 : v6.heap.size ≤ V15.heap.size := X.out.size
          have NKC : Hid (∀ g', Vb (.agg #[.int .i64 (S2.n : Int), .int .i64 (S2.d : Int), .int .i64 (S2.r : Int), .slice b1 S2.cr.length e1, .slice b2 S2.ws.length e2, .slice b3 S2.far.length e3, .slice b4 S2.bk.length e4]) g' → g' ≠ V15.heap.size) := show ∀ g', Vb (.agg #[.int .i64 (S2.n : Int), .int .i64 (S2.d : Int), .int .i64 (S2.r : Int), .slice b1 S2.cr.length e1, .slice b2 S2.ws.length e2, .slice b3 S2.far.length e3, .slice b4 S2.bk.length e4]) g' → g' ≠ V15.heap.size from fun g' hg' => by have := RV.out.lt g' hg'; omega
          have NEC : Hid (nb ≠ V15.heap.size) := show nb ≠ V15.heap.size from by have := KN.out.lt; omega
          refine hK.out _ _ (Or.inr (SS.out _ X2.out)) ?_
          clear hK K X KN RV
          have KC := KC2
          clear KC2
          have KN := KN2
          clear KN2
          have RV := RV2
          clear RV2
          have X := X2
          clear X2
          generalize (V15.alloc (.cells #[.int .i64 0, .int .u64 0] 35)) = V16 at *
          generalize V15.heap.size = cb2 at *
          try simp only [Act.put, List.setIfInBounds_toArray, List.set_cons_zero, List.set_cons_succ]
          have m0 := KN.out.cell 0
          have m1 := KN.out.cell 1
          have m2 := KN.out.cell 2
          have m3 := KN.out.cell 3
          have m4 := KN.out.cell 4
          have m5 := KN.out.cell 5
          have m6 := KN.out.cell 6
          simp only [List.getElem?_toArray, List.getElem?_cons_zero, List.getElem?_cons_succ] at m0 m1 m2 m3 m4 m5 m6
          have z0 := KN.out.free 0
          have z1 := KN.out.free 1
          have z2 := KN.out.free 2
          have z3 := KN.out.free 3
          have z4 := KN.out.free 4
          have z5 := KN.out.free 5
          have z6 := KN.out.free 6
          refine wpAnyG_one (i := 12) (by kernel_rfl) rfl (fun K hK => ?_)
          go_simp
          have X7 : Hid (Below v6.heap.size v6 ((((((((V16.setCell ⟨nb, 0, none⟩ (.int .i64 (S2.n : Int))).setCell ⟨nb, 1, none⟩ (.int .i64 (S2.d : Int))).setCell ⟨nb, 2, none⟩ (.int .i64 (S2.r : Int))).setCell ⟨nb, 3, none⟩ (.slice b1 S2.cr.length e1)).setCell ⟨nb, 4, none⟩ (.slice b2 S2.ws.length e2)).setCell ⟨nb, 5, none⟩ (.slice b3 S2.far.length e3)).setCell ⟨nb, 6, none⟩ (.slice b4 S2.bk.length e4)))) := below_seven X.out hnb _ _ _ _ _ _ _
          have N7 : Hid (Bk ((((((((V16.setCell ⟨nb, 0, none⟩ (.int .i64 (S2.n : Int))).setCell ⟨nb, 1, none⟩ (.int .i64 (S2.d : Int))).setCell ⟨nb, 2, none⟩ (.int .i64 (S2.r : Int))).setCell ⟨nb, 3, none⟩ (.slice b1 S2.cr.length e1)).setCell ⟨nb, 4, none⟩ (.slice b2 S2.ws.length e2)).setCell ⟨nb, 5, none⟩ (.slice b3 S2.far.length e3)).setCell ⟨nb, 6, none⟩ (.slice b4 S2.bk.length e4))) nb #[.int .i64 (S2.n : Int), .int .i64 (S2.d : Int), .int .i64 (S2.r : Int), .slice b1 S2.cr.length e1, .slice b2 S2.ws.length e2, .slice b3 S2.far.length e3, .slice b4 S2.bk.length e4] 30) := seven_at KN.out _ _ _ _ _ _ _
          have C7 : Hid (Bk ((((((((V16.setCell ⟨nb, 0, none⟩ (.int .i64 (S2.n : Int))).setCell ⟨nb, 1, none⟩ (.int .i64 (S2.d : Int))).setCell ⟨nb, 2, none⟩ (.int .i64 (S2.r : Int))).setCell ⟨nb, 3, none⟩ (.slice b1 S2.cr.length e1)).setCell ⟨nb, 4, none⟩ (.slice b2 S2.ws.length e2)).setCell ⟨nb, 5, none⟩ (.slice b3 S2.far.length e3)).setCell ⟨nb, 6, none⟩ (.slice b4 S2.bk.length e4))) cb2 #[.int .i64 0, .int .u64 0] 35) := seven_far KC.out (fun e => NEC.out e.symm) _ _ _ _ _ _ _
          have NV : ¬ Vb (.agg #[.int .i64 (S2.n : Int), .int .i64 (S2.d : Int), .int .i64 (S2.r : Int), .slice b1 S2.cr.length e1, .slice b2 S2.ws.length e2, .slice b3 S2.far.length e3, .slice b4 S2.bk.length e4]) nb := fun h => NKN.out nb h rfl
          have R7 : Hid (RefIn ((((((((V16.setCell ⟨nb, 0, none⟩ (.int .i64 (S2.n : Int))).setCell ⟨nb, 1, none⟩ (.int .i64 (S2.d : Int))).setCell ⟨nb, 2, none⟩ (.int .i64 (S2.r : Int))).setCell ⟨nb, 3, none⟩ (.slice b1 S2.cr.length e1)).setCell ⟨nb, 4, none⟩ (.slice b2 S2.ws.length e2)).setCell ⟨nb, 5, none⟩ (.slice b3 S2.far.length e3)).setCell ⟨nb, 6, none⟩ (.slice b4 S2.bk.length e4))) (.agg #[.int .i64 (S2.n : Int), .int .i64 (S2.d : Int), .int .i64 (S2.r : Int), .slice b1 S2.cr.length e1, .slice b2 S2.ws.length e2, .slice b3 S2.far.length e3, .slice b4 S2.bk.length e4]) S2) := ((((((RV.out.far NV).far NV).far NV).far NV).far NV).far NV).far NV
          refine hK.out _ _ (Or.inr (SS.out _ X7.out)) ?_
          clear hK K z0 z1 z2 z3 z4 z5 z6 m0 m1 m2 m3 m4 m5 m6 X KN KC RV NV
          generalize (((((((V16.setCell ⟨nb, 0, none⟩ (.int .i64 (S2.n : Int))).setCell ⟨nb, 1, none⟩ (.int .i64 (S2.d : Int))).setCell ⟨nb, 2, none⟩ (.int .i64 (S2.r : Int))).setCell ⟨nb, 3, none⟩ (.slice b1 S2.cr.length e1)).setCell ⟨nb, 4, none⟩ (.slice b2 S2.ws.length e2)).setCell ⟨nb, 5, none⟩ (.slice b3 S2.far.length e3)).setCell ⟨nb, 6, none⟩ (.slice b4 S2.bk.length e4)) = u7 at *
          try simp only [Act.put, List.setIfInBounds_toArray, List.set_cons_zero, List.set_cons_succ]
          have m0 := C7.out.cell 0
          have m1 := C7.out.cell 1
          simp only [List.getElem?_toArray, List.getElem?_cons_zero, List.getElem?_cons_succ] at m0 m1
          have z0 := C7.out.free 0
          have z1 := C7.out.free 1
          obtain ⟨cl, cw⟩ := cc1
          refine wpAnyG_one (i := 13) (by kernel_rfl) rfl (fun K hK => ?_)
          go_simp
          have X9 : Hid (Below v6.heap.size v6 (((u7.setCell ⟨cb2, 0, none⟩ (.int .i64 cl)).setCell ⟨cb2, 1, none⟩ (.int .u64 cw)))) := (X7.out.setCell hcb2 _).setCell hcb2 _
          have N9 : Hid (Bk (((u7.setCell ⟨cb2, 0, none⟩ (.int .i64 cl)).setCell ⟨cb2, 1, none⟩ (.int .u64 cw))) nb #[.int .i64 (S2.n : Int), .int .i64 (S2.d : Int), .int .i64 (S2.r : Int), .slice b1 S2.cr.length e1, .slice b2 S2.ws.length e2, .slice b3 S2.far.length e3, .slice b4 S2.bk.length e4] 30) := pair_far N7.out NEC.out _ _
          have C9 : Hid (Bk (((u7.setCell ⟨cb2, 0, none⟩ (.int .i64 cl)).setCell ⟨cb2, 1, none⟩ (.int .u64 cw))) cb2 #[.int .i64 cl, .int .u64 cw] 35) := pair_at C7.out _ _
          have NV : ¬ Vb (.agg #[.int .i64 (S2.n : Int), .int .i64 (S2.d : Int), .int .i64 (S2.r : Int), .slice b1 S2.cr.length e1, .slice b2 S2.ws.length e2, .slice b3 S2.far.length e3, .slice b4 S2.bk.length e4]) cb2 := fun h => NKC.out cb2 h rfl
          have R9 : Hid (RefIn (((u7.setCell ⟨cb2, 0, none⟩ (.int .i64 cl)).setCell ⟨cb2, 1, none⟩ (.int .u64 cw))) (.agg #[.int .i64 (S2.n : Int), .int .i64 (S2.d : Int), .int .i64 (S2.r : Int), .slice b1 S2.cr.length e1, .slice b2 S2.ws.length e2, .slice b3 S2.far.length e3, .slice b4 S2.bk.length e4]) S2) := (R7.out.far NV).far NV
          refine hK.out _ _ (Or.inr (SS.out _ X9.out)) ?_
          clear hK K z0 z1 m0 m1 X7 N7 C7 R7 NV
          generalize ((u7.setCell ⟨cb2, 0, none⟩ (.int .i64 cl)).setCell ⟨cb2, 1, none⟩ (.int .u64 cw)) = u9 at *
          try simp only [Act.put, List.setIfInBounds_toArray, List.set_cons_zero, List.set_cons_succ]
          refine wpAnyG_one (i := 14) (by kernel_rfl) rfl (fun K hK => ?_)
          go_simp
          refine hK.out _ _ (Or.inl (by kernel_rfl)) ?_
          refine wpAnyG_done (by kernel_rfl) ?_ _
          go_wp2
          go_meet
          exact ⟨nb, cb2, _, rfl, rfl, rfl, N9.out, R9.out, C9.out, X9.out, SRC.out⟩
        · clear hi
          refine wpOpG (i := 11) rfl (fun K hK => ?_)
          go_simp
          have X2 : Hid (Below v6.heap.size v6 (V14.alloc (.cells #[.int .i64 0, .int .u64 0] 35))) := X.out.trans (((Below.refl V14.heap.size V14).alloc (Nat.le_refl _) (.cells #[.int .i64 0, .int .u64 0] 35)).mono X.out.size)
          have KN2 : Hid (Bk (V14.alloc (.cells #[.int .i64 0, .int .u64 0] 35)) nb lz 30) := KN.out.next ((Below.refl V14.heap.size V14).alloc (Nat.le_refl _) (.cells #[.int .i64 0, .int .u64 0] 35))
          have KC2 : Hid (Bk (V14.alloc (.cells #[.int .i64 0, .int .u64 0] 35)) V14.heap.size #[.int .i64 0, .int .u64 0] 35) := Bk.new _ _ _
          have hcb2 : v6.heap.size ≤ V14.heap.size := X.out.size
          have NEC : Hid (nb ≠ V14.heap.size) := show nb ≠ V14.heap.size from by have := KN.out.lt; omega
          refine hK.out _ _ (Or.inr (SS.out _ X2.out)) ?_
          clear hK K X KN
          have KC := KC2
          clear KC2
          have KN := KN2
          clear KN2
          have X := X2
          clear X2
          generalize (V14.alloc (.cells #[.int .i64 0, .int .u64 0] 35)) = V17 at *
          generalize V14.heap.size = cb2 at *
          try simp only [Act.put, List.setIfInBounds_toArray, List.set_cons_zero, List.set_cons_succ]
          refine wpAnyG_one (i := 5) (by kernel_rfl) rfl (fun K hK => ?_)
          go_simp
          with_reducible refine (RSC.out V17 X.out).mono ?_
          rintro e VX ⟨rv, rfl, r0, hbx, sx⟩
          obtain ⟨b1, b2, b3, b4, e1, e2, e3, e4, ev, -, -, -⟩ := r0.at_
          unfold lsv at ev
          subst ev
          have X2 : Hid (Below v6.heap.size v6 VX) := X.out.trans ((hbx).mono X.out.size)
          have KN2 : Hid (Bk VX nb lz 30) := KN.out.next (hbx)
          have KC2 : Hid (Bk VX cb2 #[.int .i64 0, .int .u64 0] 35) := KC.out.next (hbx)
          have RV2 : Hid (RefIn VX (.agg #[.int .i64 (S2.n : Int), .int .i64 (S2.d : Int), .int .i64 (S2.r : Int), .slice b1 S2.cr.length e1, .slice b2 S2.ws.length e2, .slice b3 S2.far.length e3, .slice b4 S2.bk.length e4]) S2) := r0
          have SRC : Hid (∀ g', Vb (.agg #[.int .i64 (S2.n : Int), .int .i64 (S2.d : Int), .int .i64 (S2.r : Int), .slice b1 S2.cr.length e1, .slice b2 S2.ws.length e2, .slice b3 S2.far.length e3, .slice b4 S2.bk.length e4]) g' → Vb (.agg #[.int .i64 (S.n : Int), .int .i64 (S.d : Int), .int .i64 (S.r : Int), .slice a1 S.cr.length c1, .slice a2 S.ws.length c2, .slice a3 S.far.length c3, .slice a4 S.bk.length c4]) g' ∨ v6.heap.size ≤ g') := show ∀ g', Vb (.agg #[.int .i64 (S2.n : Int), .int .i64 (S2.d : Int), .int .i64 (S2.r : Int), .slice b1 S2.cr.length e1, .slice b2 S2.ws.length e2, .slice b3 S2.far.length e3, .slice b4 S2.bk.length e4]) g' → Vb (.agg #[.int .i64 (S.n : Int), .int .i64 (S.d : Int), .int .i64 (S.r : Int), .slice a1 S.cr.length c1, .slice a2 S.ws.length c2, .slice a3 S.far.length c3, .slice a4 S.bk.length c4]) g' ∨ v6.heap.size ≤ g' from fun g' hg' => (sx g' hg').elim Or.inl fun h => Or.inr (Nat.le_trans X.out.size h.1)
          have NKN : Hid (∀ g', Vb (.agg #[.int .i64 (S2.n : Int), .int .i64 (S2.d : Int), .int .i64 (S2.r : Int), .slice b1 S2.cr.length e1, .slice b2 S2.ws.length e2, .slice b3 S2.far.length e3, .slice b4 S2.bk.length e4]) g' → g' ≠ nb) := show ∀ g', Vb (.agg #[.int .i64 (S2.n : Int), .int .i64 (S2.d : Int), .int .i64 (S2.r : Int), .slice b1 S2.cr.length e1, .slice b2 S2.ws.length e2, .slice b3 S2.far.length e3, .slice b4 S2.bk.length e4]) g' → g' ≠ nb from fun g' hg' => by
            have h1 := KN.out.lt
            rcases sx g' hg' with h | h
            · have h2 := LTV.out g' h
              omega
            · omega
          have NKC : Hid (∀ g', Vb (.agg #[.int .i64 (S2.n : Int), .int .i64 (S2.d : Int), .int .i64 (S2.r : Int), .slice b1 S2.cr.length e1, .slice b2 S2.ws.length e2, .slice b3 S2.far.length e3, .slice b4 S2.bk.length e4]) g' → g' ≠ cb2) := show ∀ g', Vb (.agg #[.int .i64 (S2.n : Int), .int .i64 (S2.d : Int), .int .i64 (S2.r : Int), .slice b1 S2.cr.length e1, .slice b2 S2.ws.length e2, .slice b3 S2.far.length e3, .slice b4 S2.bk.length e4]) g' → g' ≠ cb2 from fun g' hg' => by
            have h1 := KC.out.lt
            rcases sx g' hg' with h | h
            · have h2 := LTV.out g' h
              omega
            · omega
          refine hK.out _ _ (Or.inr (SS.out _ X2.out)) ?_
          clear hK K hbx r0 sx X KN KC
          have KC := KC2
          clear KC2
          have KN := KN2
          clear KN2
          have RV := RV2
          clear RV2
          have X := X2
          clear X2
          generalize VX = V18 at *
          try simp only [Act.put, List.setIfInBounds_toArray, List.set_cons_zero, List.set_cons_succ]
          have S9 : (fun V : World => V.cell? ⟨rb, 0, none⟩ = some (.int .i64 (S.n : Int)) ∧ V.cell? ⟨rb, 1, none⟩ = some (.int .i64 (S.d : Int)) ∧ V.cell? ⟨rb, 2, none⟩ = some (.int .i64 (S.r : Int)) ∧ V.cell? ⟨rb, 3, none⟩ = some (.slice a1 S.cr.length c1) ∧ V.cell? ⟨rb, 4, none⟩ = some (.slice a2 S.ws.length c2) ∧ V.cell? ⟨rb, 5, none⟩ = some (.slice a3 S.far.length c3) ∧ V.cell? ⟨rb, 6, none⟩ = some (.slice a4 S.bk.length c4) ∧ V.cell? ⟨g, o + j * 3, none⟩ = some (.int .i64 kd) ∧ V.cell? ⟨g, o + j * 3 + 1, none⟩ = some (.int .i64 la) ∧ V.cell? ⟨g, o + j * 3 + 2, none⟩ = some (.int .u64 wo)) V18 := SS.out _ X.out
          refine wpAnyG_take [14] (some 48) (i := 6) (v := ?vr186) rfl rfl (by kernel_rfl) (by kernel_rfl) (by kernel_rfl) (by kernel_rfl) (fun _ _ _ h => h) (Or.inl ⟨by rfl, ?yr186⟩) S9 ?rr186
          case yr186 => (intro V hSV; obtain ⟨d0, d1, d2, d3, d4, d5, d6, d7, d8, d9⟩ := hSV; go_simp; try with_reducible rfl)
          simp only [Act.put, List.setIfInBounds_toArray, List.set_cons_zero, List.set_cons_succ]
          refine wpAnyG_take [14] (some 55) (i := 7) (v := ?vr187) rfl rfl (by kernel_rfl) (by kernel_rfl) (by kernel_rfl) (by kernel_rfl) (fun _ _ _ h => h) (Or.inl ⟨by rfl, ?yr187⟩) S9 ?rr187
          case yr187 => (intro V hSV; obtain ⟨d0, d1, d2, d3, d4, d5, d6, d7, d8, d9⟩ := hSV; go_simp; try with_reducible rfl)
          simp only [Act.put, List.setIfInBounds_toArray, List.set_cons_zero, List.set_cons_succ]
          refine wpAnyG_take [14] (some 56) (i := 8) (v := ?vr188) rfl rfl (by kernel_rfl) (by kernel_rfl) (by kernel_rfl) (by kernel_rfl) (fun _ _ _ h => h) (Or.inl ⟨by rfl, ?yr188⟩) S9 ?rr188
          case yr188 => (intro V hSV; obtain ⟨d0, d1, d2, d3, d4, d5, d6, d7, d8, d9⟩ := hSV; go_simp; try with_reducible rfl)
          simp only [Act.put, List.setIfInBounds_toArray, List.set_cons_zero, List.set_cons_succ]
          refine wpAnyG_take [14] (some 57) (i := 9) (v := ?vr189) rfl rfl (by kernel_rfl) (by kernel_rfl) (by kernel_rfl) (by kernel_rfl) (fun _ _ _ h => h) (Or.inl ⟨by rfl, ?yr189⟩) S9 ?rr189
          case yr189 => (intro V hSV; obtain ⟨d0, d1, d2, d3, d4, d5, d6, d7, d8, d9⟩ := hSV; go_simp; try with_reducible rfl)
          simp only [Act.put, List.setIfInBounds_toArray, List.set_cons_zero, List.set_cons_succ]
          clear S9
          have m0 := KN.out.cell 0
          have m1 := KN.out.cell 1
          have m2 := KN.out.cell 2
          have m3 := KN.out.cell 3
          have m4 := KN.out.cell 4
          have m5 := KN.out.cell 5
          have m6 := KN.out.cell 6
          simp only [List.getElem?_toArray, List.getElem?_cons_zero, List.getElem?_cons_succ] at m0 m1 m2 m3 m4 m5 m6
          have z0 := KN.out.free 0
          have z1 := KN.out.free 1
          have z2 := KN.out.free 2
          have z3 := KN.out.free 3
          have z4 := KN.out.free 4
          have z5 := KN.out.free 5
          have z6 := KN.out.free 6
          refine wpAnyG_one (i := 12) (by kernel_rfl) rfl (fun K hK => ?_)
          go_simp
          have X7 : Hid (Below v6.heap.size v6 ((((((((V18.setCell ⟨nb, 0, none⟩ (.int .i64 (S2.n : Int))).setCell ⟨nb, 1, none⟩ (.int .i64 (S2.d : Int))).setCell ⟨nb, 2, none⟩ (.int .i64 (S2.r : Int))).setCell ⟨nb, 3, none⟩ (.slice b1 S2.cr.length e1)).setCell ⟨nb, 4, none⟩ (.slice b2 S2.ws.length e2)).setCell ⟨nb, 5, none⟩ (.slice b3 S2.far.length e3)).setCell ⟨nb, 6, none⟩ (.slice b4 S2.bk.length e4)))) := below_seven X.out hnb _ _ _ _ _ _ _
          have N7 : Hid (Bk ((((((((V18.setCell ⟨nb, 0, none⟩ (.int .i64 (S2.n : Int))).setCell ⟨nb, 1, none⟩ (.int .i64 (S2.d : Int))).setCell ⟨nb, 2, none⟩ (.int .i64 (S2.r : Int))).setCell ⟨nb, 3, none⟩ (.slice b1 S2.cr.length e1)).setCell ⟨nb, 4, none⟩ (.slice b2 S2.ws.length e2)).setCell ⟨nb, 5, none⟩ (.slice b3 S2.far.length e3)).setCell ⟨nb, 6, none⟩ (.slice b4 S2.bk.length e4))) nb #[.int .i64 (S2.n : Int), .int .i64 (S2.d : Int), .int .i64 (S2.r : Int), .slice b1 S2.cr.length e1, .slice b2 S2.ws.length e2, .slice b3 S2.far.length e3, .slice b4 S2.bk.length e4] 30) := seven_at KN.out _ _ _ _ _ _ _
          have C7 : Hid (Bk ((((((((V18.setCell ⟨nb, 0, none⟩ (.int .i64 (S2.n : Int))).setCell ⟨nb, 1, none⟩ (.int .i64 (S2.d : Int))).setCell ⟨nb, 2, none⟩ (.int .i64 (S2.r : Int))).setCell ⟨nb, 3, none⟩ (.slice b1 S2.cr.length e1)).setCell ⟨nb, 4, none⟩ (.slice b2 S2.ws.length e2)).setCell ⟨nb, 5, none⟩ (.slice b3 S2.far.length e3)).setCell ⟨nb, 6, none⟩ (.slice b4 S2.bk.length e4))) cb2 #[.int .i64 0, .int .u64 0] 35) := seven_far KC.out (fun e => NEC.out e.symm) _ _ _ _ _ _ _
          have NV : ¬ Vb (.agg #[.int .i64 (S2.n : Int), .int .i64 (S2.d : Int), .int .i64 (S2.r : Int), .slice b1 S2.cr.length e1, .slice b2 S2.ws.length e2, .slice b3 S2.far.length e3, .slice b4 S2.bk.length e4]) nb := fun h => NKN.out nb h rfl
          have R7 : Hid (RefIn ((((((((V18.setCell ⟨nb, 0, none⟩ (.int .i64 (S2.n : Int))).setCell ⟨nb, 1, none⟩ (.int .i64 (S2.d : Int))).setCell ⟨nb, 2, none⟩ (.int .i64 (S2.r : Int))).setCell ⟨nb, 3, none⟩ (.slice b1 S2.cr.length e1)).setCell ⟨nb, 4, none⟩ (.slice b2 S2.ws.length e2)).setCell ⟨nb, 5, none⟩ (.slice b3 S2.far.length e3)).setCell ⟨nb, 6, none⟩ (.slice b4 S2.bk.length e4))) (.agg #[.int .i64 (S2.n : Int), .int .i64 (S2.d : Int), .int .i64 (S2.r : Int), .slice b1 S2.cr.length e1, .slice b2 S2.ws.length e2, .slice b3 S2.far.length e3, .slice b4 S2.bk.length e4]) S2) := ((((((RV.out.far NV).far NV).far NV).far NV).far NV).far NV).far NV
          refine hK.out _ _ (Or.inr (SS.out _ X7.out)) ?_
          clear hK K z0 z1 z2 z3 z4 z5 z6 m0 m1 m2 m3 m4 m5 m6 X KN KC RV NV
          generalize (((((((V18.setCell ⟨nb, 0, none⟩ (.int .i64 (S2.n : Int))).setCell ⟨nb, 1, none⟩ (.int .i64 (S2.d : Int))).setCell ⟨nb, 2, none⟩ (.int .i64 (S2.r : Int))).setCell ⟨nb, 3, none⟩ (.slice b1 S2.cr.length e1)).setCell ⟨nb, 4, none⟩ (.slice b2 S2.ws.length e2)).setCell ⟨nb, 5, none⟩ (.slice b3 S2.far.length e3)).setCell ⟨nb, 6, none⟩ (.slice b4 S2.bk.length e4)) = u7 at *
          try simp only [Act.put, List.setIfInBounds_toArray, List.set_cons_zero, List.set_cons_succ]
          have m0 := C7.out.cell 0
          have m1 := C7.out.cell 1
          simp only [List.getElem?_toArray, List.getElem?_cons_zero, List.getElem?_cons_succ] at m0 m1
          have z0 := C7.out.free 0
          have z1 := C7.out.free 1
          obtain ⟨cl, cw⟩ := cc1
          refine wpAnyG_one (i := 13) (by kernel_rfl) rfl (fun K hK => ?_)
          go_simp
          have X9 : Hid (Below v6.heap.size v6 (((u7.setCell ⟨cb2, 0, none⟩ (.int .i64 cl)).setCell ⟨cb2, 1, none⟩ (.int .u64 cw)))) := (X7.out.setCell hcb2 _).setCell hcb2 _
          have N9 : Hid (Bk (((u7.setCell ⟨cb2, 0, none⟩ (.int .i64 cl)).setCell ⟨cb2, 1, none⟩ (.int .u64 cw))) nb #[.int .i64 (S2.n : Int), .int .i64 (S2.d : Int), .int .i64 (S2.r : Int), .slice b1 S2.cr.length e1, .slice b2 S2.ws.length e2, .slice b3 S2.far.length e3, .slice b4 S2.bk.length e4] 30) := pair_far N7.out NEC.out _ _
          have C9 : Hid (Bk (((u7.setCell ⟨cb2, 0, none⟩ (.int .i64 cl)).setCell ⟨cb2, 1, none⟩ (.int .u64 cw))) cb2 #[.int .i64 cl, .int .u64 cw] 35) := pair_at C7.out _ _
          have NV : ¬ Vb (.agg #[.int .i64 (S2.n : Int), .int .i64 (S2.d : Int), .int .i64 (S2.r : Int), .slice b1 S2.cr.length e1, .slice b2 S2.ws.length e2, .slice b3 S2.far.length e3, .slice b4 S2.bk.length e4]) cb2 := fun h => NKC.out cb2 h rfl
          have R9 : Hid (RefIn (((u7.setCell ⟨cb2, 0, none⟩ (.int .i64 cl)).setCell ⟨cb2, 1, none⟩ (.int .u64 cw))) (.agg #[.int .i64 (S2.n : Int), .int .i64 (S2.d : Int), .int .i64 (S2.r : Int), .slice b1 S2.cr.length e1, .slice b2 S2.ws.length e2, .slice b3 S2.far.length e3, .slice b4 S2.bk.length e4]) S2) := (R7.out.far NV).far NV
          refine hK.out _ _ (Or.inr (SS.out _ X9.out)) ?_
          clear hK K z0 z1 m0 m1 X7 N7 C7 R7 NV
          generalize ((u7.setCell ⟨cb2, 0, none⟩ (.int .i64 cl)).setCell ⟨cb2, 1, none⟩ (.int .u64 cw)) = u9 at *
          try simp only [Act.put, List.setIfInBounds_toArray, List.set_cons_zero, List.set_cons_succ]
          refine wpAnyG_one (i := 14) (by kernel_rfl) rfl (fun K hK => ?_)
          go_simp
          refine hK.out _ _ (Or.inl (by kernel_rfl)) ?_
          refine wpAnyG_done (by kernel_rfl) ?_ _
          go_wp2
          go_meet
          exact ⟨nb, cb2, _, rfl, rfl, rfl, N9.out, R9.out, C9.out, X9.out, SRC.out⟩
      · clear hi
        refine wpOpG (i := 11) rfl (fun K hK => ?_)
        go_simp
        have X2 : Hid (Below v6.heap.size v6 (V0.alloc (.cells #[.int .i64 0, .int .u64 0] 35))) := X.out.trans (((Below.refl V0.heap.size V0).alloc (Nat.le_refl _) (.cells #[.int .i64 0, .int .u64 0] 35)).mono X.out.size)
        have KC2 : Hid (Bk (V0.alloc (.cells #[.int .i64 0, .int .u64 0] 35)) V0.heap.size #[.int .i64 0, .int .u64 0] 35) := Bk.new _ _ _
        have hcb2 : v6.heap.size ≤ V0.heap.size := X.out.size
        refine hK.out _ _ (Or.inr (SS.out _ X2.out)) ?_
        clear hK K X
        have KC := KC2
        clear KC2
        have X := X2
        clear X2
        generalize (V0.alloc (.cells #[.int .i64 0, .int .u64 0] 35)) = V19 at *
        generalize V0.heap.size = cb2 at *
        try simp only [Act.put, List.setIfInBounds_toArray, List.set_cons_zero, List.set_cons_succ]
        refine wpAnyG_any [5, 10] (by kernel_rfl) (by rfl) ?_
        intro i hi
        rcases mem2 hi with rfl | rfl
        · clear hi
          refine wpOpG (i := 5) rfl (fun K hK => ?_)
          go_simp
          with_reducible refine (RSC.out V19 X.out).mono ?_
          rintro e VX ⟨rv, rfl, r0, hbx, sx⟩
          obtain ⟨b1, b2, b3, b4, e1, e2, e3, e4, ev, -, -, -⟩ := r0.at_
          unfold lsv at ev
          subst ev
          have X2 : Hid (Below v6.heap.size v6 VX) := X.out.trans ((hbx).mono X.out.size)
          have KC2 : Hid (Bk VX cb2 #[.int .i64 0, .int .u64 0] 35) := KC.out.next (hbx)
          have RV2 : Hid (RefIn VX (.agg #[.int .i64 (S2.n : Int), .int .i64 (S2.d : Int), .int .i64 (S2.r : Int), .slice b1 S2.cr.length e1, .slice b2 S2.ws.length e2, .slice b3 S2.far.length e3, .slice b4 S2.bk.length e4]) S2) := r0
          have SRC : Hid (∀ g', Vb (.agg #[.int .i64 (S2.n : Int), .int .i64 (S2.d : Int), .int .i64 (S2.r : Int), .slice b1 S2.cr.length e1, .slice b2 S2.ws.length e2, .slice b3 S2.far.length e3, .slice b4 S2.bk.length e4]) g' → Vb (.agg #[.int .i64 (S.n : Int), .int .i64 (S.d : Int), .int .i64 (S.r : Int), .slice a1 S.cr.length c1, .slice a2 S.ws.length c2, .slice a3 S.far.length c3, .slice a4 S.bk.length c4]) g' ∨ v6.heap.size ≤ g') := show ∀ g', Vb (.agg #[.int .i64 (S2.n : Int), .int .i64 (S2.d : Int), .int .i64 (S2.r : Int), .slice b1 S2.cr.length e1, .slice b2 S2.ws.length e2, .slice b3 S2.far.length e3, .slice b4 S2.bk.length e4]) g' → Vb (.agg #[.int .i64 (S.n : Int), .int .i64 (S.d : Int), .int .i64 (S.r : Int), .slice a1 S.cr.length c1, .slice a2 S.ws.length c2, .slice a3 S.far.length c3, .slice a4 S.bk.length c4]) g' ∨ v6.heap.size ≤ g' from fun g' hg' => (sx g' hg').elim Or.inl fun h => Or.inr (Nat.le_trans X.out.size h.1)
          have NKC : Hid (∀ g', Vb (.agg #[.int .i64 (S2.n : Int), .int .i64 (S2.d : Int), .int .i64 (S2.r : Int), .slice b1 S2.cr.length e1, .slice b2 S2.ws.length e2, .slice b3 S2.far.length e3, .slice b4 S2.bk.length e4]) g' → g' ≠ cb2) := show ∀ g', Vb (.agg #[.int .i64 (S2.n : Int), .int .i64 (S2.d : Int), .int .i64 (S2.r : Int), .slice b1 S2.cr.length e1, .slice b2 S2.ws.length e2, .slice b3 S2.far.length e3, .slice b4 S2.bk.length e4]) g' → g' ≠ cb2 from fun g' hg' => by
            have h1 := KC.out.lt
            rcases sx g' hg' with h | h
            · have h2 := LTV.out g' h
              omega
            · omega
          refine hK.out _ _ (Or.inr (SS.out _ X2.out)) ?_
          clear hK K hbx r0 sx X KC
          have KC := KC2
          clear KC2
          have RV := RV2
          clear RV2
          have X := X2
          clear X2
          generalize VX = V20 at *
          try simp only [Act.put, List.setIfInBounds_toArray, List.set_cons_zero, List.set_cons_succ]
          have S9 : (fun V : World => V.cell? ⟨rb, 0, none⟩ = some (.int .i64 (S.n : Int)) ∧ V.cell? ⟨rb, 1, none⟩ = some (.int .i64 (S.d : Int)) ∧ V.cell? ⟨rb, 2, none⟩ = some (.int .i64 (S.r : Int)) ∧ V.cell? ⟨rb, 3, none⟩ = some (.slice a1 S.cr.length c1) ∧ V.cell? ⟨rb, 4, none⟩ = some (.slice a2 S.ws.length c2) ∧ V.cell? ⟨rb, 5, none⟩ = some (.slice a3 S.far.length c3) ∧ V.cell? ⟨rb, 6, none⟩ = some (.slice a4 S.bk.length c4) ∧ V.cell? ⟨g, o + j * 3, none⟩ = some (.int .i64 kd) ∧ V.cell? ⟨g, o + j * 3 + 1, none⟩ = some (.int .i64 la) ∧ V.cell? ⟨g, o + j * 3 + 2, none⟩ = some (.int .u64 wo)) V20 := SS.out _ X.out
          refine wpAnyG_take [14] (some 48) (i := 6) (v := ?vr206) rfl rfl (by kernel_rfl) (by kernel_rfl) (by kernel_rfl) (by kernel_rfl) (fun _ _ _ h => h) (Or.inl ⟨by rfl, ?yr206⟩) S9 ?rr206
          case yr206 => (intro V hSV; obtain ⟨d0, d1, d2, d3, d4, d5, d6, d7, d8, d9⟩ := hSV; go_simp; try with_reducible rfl)
          simp only [Act.put, List.setIfInBounds_toArray, List.set_cons_zero, List.set_cons_succ]
          refine wpAnyG_take [14] (some 55) (i := 7) (v := ?vr207) rfl rfl (by kernel_rfl) (by kernel_rfl) (by kernel_rfl) (by kernel_rfl) (fun _ _ _ h => h) (Or.inl ⟨by rfl, ?yr207⟩) S9 ?rr207
          case yr207 => (intro V hSV; obtain ⟨d0, d1, d2, d3, d4, d5, d6, d7, d8, d9⟩ := hSV; go_simp; try with_reducible rfl)
          simp only [Act.put, List.setIfInBounds_toArray, List.set_cons_zero, List.set_cons_succ]
          refine wpAnyG_take [14] (some 56) (i := 8) (v := ?vr208) rfl rfl (by kernel_rfl) (by kernel_rfl) (by kernel_rfl) (by kernel_rfl) (fun _ _ _ h => h) (Or.inl ⟨by rfl, ?yr208⟩) S9 ?rr208
          case yr208 => (intro V hSV; obtain ⟨d0, d1, d2, d3, d4, d5, d6, d7, d8, d9⟩ := hSV; go_simp; try with_reducible rfl)
          simp only [Act.put, List.setIfInBounds_toArray, List.set_cons_zero, List.set_cons_succ]
          refine wpAnyG_take [14] (some 57) (i := 9) (v := ?vr209) rfl rfl (by kernel_rfl) (by kernel_rfl) (by kernel_rfl) (by kernel_rfl) (fun _ _ _ h => h) (Or.inl ⟨by rfl, ?yr209⟩) S9 ?rr209
          case yr209 => (intro V hSV; obtain ⟨d0, d1, d2, d3, d4, d5, d6, d7, d8, d9⟩ := hSV; go_simp; try with_reducible rfl)
          simp only [Act.put, List.setIfInBounds_toArray, List.set_cons_zero, List.set_cons_succ]
          clear S9
          refine wpAnyG_one (i := 10) (by kernel_rfl) rfl (fun K hK => ?_)
          go_simp
          have X2 : Hid (Below v6.heap.size v6 (V20.alloc (.cells lz 30))) := X.out.trans (((Below.refl V20.heap.size V20).alloc (Nat.le_refl _) (.cells lz 30)).mono X.out.size)
          have KC2 : Hid (Bk (V20.alloc (.cells lz 30)) cb2 #[.int .i64 0, .int .u64 0] 35) := KC.out.next ((Below.refl V20.heap.size V20).alloc (Nat.le_refl _) (.cells lz 30))
          have RV2 : Hid (RefIn (V20.alloc (.cells lz 30)) (.agg #[.int .i64 (S2.n : Int), .int .i64 (S2.d : Int), .int .i64 (S2.r : Int), .slice b1 S2.cr.length e1, .slice b2 S2.ws.length e2, .slice b3 S2.far.length e3, .slice b4 S2.bk.length e4]) S2) := RV.out.below ((Below.refl V20.heap.size V20).alloc (Nat.le_refl _) (.cells lz 30))
          have KN2 : Hid (Bk (V20.alloc (.cells lz 30)) V20.heap.size lz 30) := Bk.new _ _ _
          have hnb : v6.heap.size ≤ V20.heap.size := X.out.size
          have NKN : Hid (∀ g', Vb (.agg #[.int .i64 (S2.n : Int), .int .i64 (S2.d : Int), .int .i64 (S2.r : Int), .slice b1 S2.cr.length e1, .slice b2 S2.ws.length e2, .slice b3 S2.far.length e3, .slice b4 S2.bk.length e4]) g' → g' ≠ V20.heap.size) := show ∀ g', Vb (.agg #[.int .i64 (S2.n : Int), .int .i64 (S2.d : Int), .int .i64 (S2.r : Int), .slice b1 S2.cr.length e1, .slice b2 S2.ws.length e2, .slice b3 S2.far.length e3, .slice b4 S2.bk.length e4]) g' → g' ≠ V20.heap.size from fun g' hg' => by have := RV.out.lt g' hg'; omega
          have NEC : Hid (V20.heap.size ≠ cb2) := show V20.heap.size ≠ cb2 from by have := KC.out.lt; omega
          refine hK.out _ _ (Or.inr (SS.out _ X2.out)) ?_
          clear hK K X KC RV
          have KC := KC2
          clear KC2
          have KN := KN2
          clear KN2
          have RV := RV2
          clear RV2
          have X := X2
          clear X2
          generalize (V20.alloc (.cells lz 30)) = V21 at *
          generalize V20.heap.size = nb at *
          try simp only [Act.put, List.setIfInBounds_toArray, List.set_cons_zero, List.set_cons_succ]
          have m0 := KN.out.cell 0
          have m1 := KN.out.cell 1
          have m2 := KN.out.cell 2
          have m3 := KN.out.cell 3
          have m4 := KN.out.cell 4
          have m5 := KN.out.cell 5
          have m6 := KN.out.cell 6
          simp only [List.getElem?_toArray, List.getElem?_cons_zero, List.getElem?_cons_succ] at m0 m1 m2 m3 m4 m5 m6
          have z0 := KN.out.free 0
          have z1 := KN.out.free 1
          have z2 := KN.out.free 2
          have z3 := KN.out.free 3
          have z4 := KN.out.free 4
          have z5 := KN.out.free 5
          have z6 := KN.out.free 6
          refine wpAnyG_one (i := 12) (by kernel_rfl) rfl (fun K hK => ?_)
          go_simp
          have X7 : Hid (Below v6.heap.size v6 ((((((((V21.setCell ⟨nb, 0, none⟩ (.int .i64 (S2.n : Int))).setCell ⟨nb, 1, none⟩ (.int .i64 (S2.d : Int))).setCell ⟨nb, 2, none⟩ (.int .i64 (S2.r : Int))).setCell ⟨nb, 3, none⟩ (.slice b1 S2.cr.length e1)).setCell ⟨nb, 4, none⟩ (.slice b2 S2.ws.length e2)).setCell ⟨nb, 5, none⟩ (.slice b3 S2.far.length e3)).setCell ⟨nb, 6, none⟩ (.slice b4 S2.bk.length e4)))) := below_seven X.out hnb _ _ _ _ _ _ _
          have N7 : Hid (Bk ((((((((V21.setCell ⟨nb, 0, none⟩ (.int .i64 (S2.n : Int))).setCell ⟨nb, 1, none⟩ (.int .i64 (S2.d : Int))).setCell ⟨nb, 2, none⟩ (.int .i64 (S2.r : Int))).setCell ⟨nb, 3, none⟩ (.slice b1 S2.cr.length e1)).setCell ⟨nb, 4, none⟩ (.slice b2 S2.ws.length e2)).setCell ⟨nb, 5, none⟩ (.slice b3 S2.far.length e3)).setCell ⟨nb, 6, none⟩ (.slice b4 S2.bk.length e4))) nb #[.int .i64 (S2.n : Int), .int .i64 (S2.d : Int), .int .i64 (S2.r : Int), .slice b1 S2.cr.length e1, .slice b2 S2.ws.length e2, .slice b3 S2.far.length e3, .slice b4 S2.bk.length e4] 30) := seven_at KN.out _ _ _ _ _ _ _
          have C7 : Hid (Bk ((((((((V21.setCell ⟨nb, 0, none⟩ (.int .i64 (S2.n : Int))).setCell ⟨nb, 1, none⟩ (.int .i64 (S2.d : Int))).setCell ⟨nb, 2, none⟩ (.int .i64 (S2.r : Int))).setCell ⟨nb, 3, none⟩ (.slice b1 S2.cr.length e1)).setCell ⟨nb, 4, none⟩ (.slice b2 S2.ws.length e2)).setCell ⟨nb, 5, none⟩ (.slice b3 S2.far.length e3)).setCell ⟨nb, 6, none⟩ (.slice b4 S2.bk.length e4))) cb2 #[.int .i64 0, .int .u64 0] 35) := seven_far KC.out (fun e => NEC.out e.symm) _ _ _ _ _ _ _
          have NV : ¬ Vb (.agg #[.int .i64 (S2.n : Int), .int .i64 (S2.d : Int), .int .i64 (S2.r : Int), .slice b1 S2.cr.length e1, .slice b2 S2.ws.length e2, .slice b3 S2.far.length e3, .slice b4 S2.bk.length e4]) nb := fun h => NKN.out nb h rfl
          have R7 : Hid (RefIn ((((((((V21.setCell ⟨nb, 0, none⟩ (.int .i64 (S2.n : Int))).setCell ⟨nb, 1, none⟩ (.int .i64 (S2.d : Int))).setCell ⟨nb, 2, none⟩ (.int .i64 (S2.r : Int))).setCell ⟨nb, 3, none⟩ (.slice b1 S2.cr.length e1)).setCell ⟨nb, 4, none⟩ (.slice b2 S2.ws.length e2)).setCell ⟨nb, 5, none⟩ (.slice b3 S2.far.length e3)).setCell ⟨nb, 6, none⟩ (.slice b4 S2.bk.length e4))) (.agg #[.int .i64 (S2.n : Int), .int .i64 (S2.d : Int), .int .i64 (S2.r : Int), .slice b1 S2.cr.length e1, .slice b2 S2.ws.length e2, .slice b3 S2.far.length e3, .slice b4 S2.bk.length e4]) S2) := ((((((RV.out.far NV).far NV).far NV).far NV).far NV).far NV).far NV
          refine hK.out _ _ (Or.inr (SS.out _ X7.out)) ?_
          clear hK K z0 z1 z2 z3 z4 z5 z6 m0 m1 m2 m3 m4 m5 m6 X KN KC RV NV
          generalize (((((((V21.setCell ⟨nb, 0, none⟩ (.int .i64 (S2.n : Int))).setCell ⟨nb, 1, none⟩ (.int .i64 (S2.d : Int))).setCell ⟨nb, 2, none⟩ (.int .i64 (S2.r : Int))).setCell ⟨nb, 3, none⟩ (.slice b1 S2.cr.length e1)).setCell ⟨nb, 4, none⟩ (.slice b2 S2.ws.length e2)).setCell ⟨nb, 5, none⟩ (.slice b3 S2.far.length e3)).setCell ⟨nb, 6, none⟩ (.slice b4 S2.bk.length e4)) = u7 at *
          try simp only [Act.put, List.setIfInBounds_toArray, List.set_cons_zero, List.set_cons_succ]
          have m0 := C7.out.cell 0
          have m1 := C7.out.cell 1
          simp only [List.getElem?_toArray, List.getElem?_cons_zero, List.getElem?_cons_succ] at m0 m1
          have z0 := C7.out.free 0
          have z1 := C7.out.free 1
          obtain ⟨cl, cw⟩ := cc1
          refine wpAnyG_one (i := 13) (by kernel_rfl) rfl (fun K hK => ?_)
          go_simp
          have X9 : Hid (Below v6.heap.size v6 (((u7.setCell ⟨cb2, 0, none⟩ (.int .i64 cl)).setCell ⟨cb2, 1, none⟩ (.int .u64 cw)))) := (X7.out.setCell hcb2 _).setCell hcb2 _
          have N9 : Hid (Bk (((u7.setCell ⟨cb2, 0, none⟩ (.int .i64 cl)).setCell ⟨cb2, 1, none⟩ (.int .u64 cw))) nb #[.int .i64 (S2.n : Int), .int .i64 (S2.d : Int), .int .i64 (S2.r : Int), .slice b1 S2.cr.length e1, .slice b2 S2.ws.length e2, .slice b3 S2.far.length e3, .slice b4 S2.bk.length e4] 30) := pair_far N7.out NEC.out _ _
          have C9 : Hid (Bk (((u7.setCell ⟨cb2, 0, none⟩ (.int .i64 cl)).setCell ⟨cb2, 1, none⟩ (.int .u64 cw))) cb2 #[.int .i64 cl, .int .u64 cw] 35) := pair_at C7.out _ _
          have NV : ¬ Vb (.agg #[.int .i64 (S2.n : Int), .int .i64 (S2.d : Int), .int .i64 (S2.r : Int), .slice b1 S2.cr.length e1, .slice b2 S2.ws.length e2, .slice b3 S2.far.length e3, .slice b4 S2.bk.length e4]) cb2 := fun h => NKC.out cb2 h rfl
          have R9 : Hid (RefIn (((u7.setCell ⟨cb2, 0, none⟩ (.int .i64 cl)).setCell ⟨cb2, 1, none⟩ (.int .u64 cw))) (.agg #[.int .i64 (S2.n : Int), .int .i64 (S2.d : Int), .int .i64 (S2.r : Int), .slice b1 S2.cr.length e1, .slice b2 S2.ws.length e2, .slice b3 S2.far.length e3, .slice b4 S2.bk.length e4]) S2) := (R7.out.far NV).far NV
          refine hK.out _ _ (Or.inr (SS.out _ X9.out)) ?_
          clear hK K z0 z1 m0 m1 X7 N7 C7 R7 NV
          generalize ((u7.setCell ⟨cb2, 0, none⟩ (.int .i64 cl)).setCell ⟨cb2, 1, none⟩ (.int .u64 cw)) = u9 at *
          try simp only [Act.put, List.setIfInBounds_toArray, List.set_cons_zero, List.set_cons_succ]
          refine wpAnyG_one (i := 14) (by kernel_rfl) rfl (fun K hK => ?_)
          go_simp
          refine hK.out _ _ (Or.inl (by kernel_rfl)) ?_
          refine wpAnyG_done (by kernel_rfl) ?_ _
          go_wp2
          go_meet
          exact ⟨nb, cb2, _, rfl, rfl, rfl, N9.out, R9.out, C9.out, X9.out, SRC.out⟩
        · clear hi
          refine wpOpG (i := 10) rfl (fun K hK => ?_)
          go_simp
          have X2 : Hid (Below v6.heap.size v6 (V19.alloc (.cells lz 30))) := X.out.trans (((Below.refl V19.heap.size V19).alloc (Nat.le_refl _) (.cells lz 30)).mono X.out.size)
          have KC2 : Hid (Bk (V19.alloc (.cells lz 30)) cb2 #[.int .i64 0, .int .u64 0] 35) := KC.out.next ((Below.refl V19.heap.size V19).alloc (Nat.le_refl _) (.cells lz 30))
          have KN2 : Hid (Bk (V19.alloc (.cells lz 30)) V19.heap.size lz 30) := Bk.new _ _ _
          have hnb : v6.heap.size ≤ V19.heap.size := X.out.size
          have NEC : Hid (V19.heap.size ≠ cb2) := show V19.heap.size ≠ cb2 from by have := KC.out.lt; omega
          refine hK.out _ _ (Or.inr (SS.out _ X2.out)) ?_
          clear hK K X KC
          have KC := KC2
          clear KC2
          have KN := KN2
          clear KN2
          have X := X2
          clear X2
          generalize (V19.alloc (.cells lz 30)) = V22 at *
          generalize V19.heap.size = nb at *
          try simp only [Act.put, List.setIfInBounds_toArray, List.set_cons_zero, List.set_cons_succ]
          refine wpAnyG_one (i := 5) (by kernel_rfl) rfl (fun K hK => ?_)
          go_simp
          with_reducible refine (RSC.out V22 X.out).mono ?_
          rintro e VX ⟨rv, rfl, r0, hbx, sx⟩
          obtain ⟨b1, b2, b3, b4, e1, e2, e3, e4, ev, -, -, -⟩ := r0.at_
          unfold lsv at ev
          subst ev
          have X2 : Hid (Below v6.heap.size v6 VX) := X.out.trans ((hbx).mono X.out.size)
          have KN2 : Hid (Bk VX nb lz 30) := KN.out.next (hbx)
          have KC2 : Hid (Bk VX cb2 #[.int .i64 0, .int .u64 0] 35) := KC.out.next (hbx)
          have RV2 : Hid (RefIn VX (.agg #[.int .i64 (S2.n : Int), .int .i64 (S2.d : Int), .int .i64 (S2.r : Int), .slice b1 S2.cr.length e1, .slice b2 S2.ws.length e2, .slice b3 S2.far.length e3, .slice b4 S2.bk.length e4]) S2) := r0
          have SRC : Hid (∀ g', Vb (.agg #[.int .i64 (S2.n : Int), .int .i64 (S2.d : Int), .int .i64 (S2.r : Int), .slice b1 S2.cr.length e1, .slice b2 S2.ws.length e2, .slice b3 S2.far.length e3, .slice b4 S2.bk.length e4]) g' → Vb (.agg #[.int .i64 (S.n : Int), .int .i64 (S.d : Int), .int .i64 (S.r : Int), .slice a1 S.cr.length c1, .slice a2 S.ws.length c2, .slice a3 S.far.length c3, .slice a4 S.bk.length c4]) g' ∨ v6.heap.size ≤ g') := show ∀ g', Vb (.agg #[.int .i64 (S2.n : Int), .int .i64 (S2.d : Int), .int .i64 (S2.r : Int), .slice b1 S2.cr.length e1, .slice b2 S2.ws.length e2, .slice b3 S2.far.length e3, .slice b4 S2.bk.length e4]) g' → Vb (.agg #[.int .i64 (S.n : Int), .int .i64 (S.d : Int), .int .i64 (S.r : Int), .slice a1 S.cr.length c1, .slice a2 S.ws.length c2, .slice a3 S.far.length c3, .slice a4 S.bk.length c4]) g' ∨ v6.heap.size ≤ g' from fun g' hg' => (sx g' hg').elim Or.inl fun h => Or.inr (Nat.le_trans X.out.size h.1)
          have NKN : Hid (∀ g', Vb (.agg #[.int .i64 (S2.n : Int), .int .i64 (S2.d : Int), .int .i64 (S2.r : Int), .slice b1 S2.cr.length e1, .slice b2 S2.ws.length e2, .slice b3 S2.far.length e3, .slice b4 S2.bk.length e4]) g' → g' ≠ nb) := show ∀ g', Vb (.agg #[.int .i64 (S2.n : Int), .int .i64 (S2.d : Int), .int .i64 (S2.r : Int), .slice b1 S2.cr.length e1, .slice b2 S2.ws.length e2, .slice b3 S2.far.length e3, .slice b4 S2.bk.length e4]) g' → g' ≠ nb from fun g' hg' => by
            have h1 := KN.out.lt
            rcases sx g' hg' with h | h
            · have h2 := LTV.out g' h
              omega
            · omega
          have NKC : Hid (∀ g', Vb (.agg #[.int .i64 (S2.n : Int), .int .i64 (S2.d : Int), .int .i64 (S2.r : Int), .slice b1 S2.cr.length e1, .slice b2 S2.ws.length e2, .slice b3 S2.far.length e3, .slice b4 S2.bk.length e4]) g' → g' ≠ cb2) := show ∀ g', Vb (.agg #[.int .i64 (S2.n : Int), .int .i64 (S2.d : Int), .int .i64 (S2.r : Int), .slice b1 S2.cr.length e1, .slice b2 S2.ws.length e2, .slice b3 S2.far.length e3, .slice b4 S2.bk.length e4]) g' → g' ≠ cb2 from fun g' hg' => by
            have h1 := KC.out.lt
            rcases sx g' hg' with h | h
            · have h2 := LTV.out g' h
              omega
            · omega
          refine hK.out _ _ (Or.inr (SS.out _ X2.out)) ?_
          clear hK K hbx r0 sx X KN KC
          have KC := KC2
          clear KC2
          have KN := KN2
          clear KN2
          have RV := RV2
          clear RV2
          have X := X2
          clear X2
          generalize VX = V23 at *
          try simp only [Act.put, List.setIfInBounds_toArray, List.set_cons_zero, List.set_cons_succ]
          have S9 : (fun V : World => V.cell? ⟨rb, 0, none⟩ = some (.int .i64 (S.n : Int)) ∧ V.cell? ⟨rb, 1, none⟩ = some (.int .i64 (S.d : Int)) ∧ V.cell? ⟨rb, 2, none⟩ = some (.int .i64 (S.r : Int)) ∧ V.cell? ⟨rb, 3, none⟩ = some (.slice a1 S.cr.length c1) ∧ V.cell? ⟨rb, 4, none⟩ = some (.slice a2 S.ws.length c2) ∧ V.cell? ⟨rb, 5, none⟩ = some (.slice a3 S.far.length c3) ∧ V.cell? ⟨rb, 6, none⟩ = some (.slice a4 S.bk.length c4) ∧ V.cell? ⟨g, o + j * 3, none⟩ = some (.int .i64 kd) ∧ V.cell? ⟨g, o + j * 3 + 1, none⟩ = some (.int .i64 la) ∧ V.cell? ⟨g, o + j * 3 + 2, none⟩ = some (.int .u64 wo)) V23 := SS.out _ X.out
          refine wpAnyG_take [14] (some 48) (i := 6) (v := ?vr236) rfl rfl (by kernel_rfl) (by kernel_rfl) (by kernel_rfl) (by kernel_rfl) (fun _ _ _ h => h) (Or.inl ⟨by rfl, ?yr236⟩) S9 ?rr236
          case yr236 => (intro V hSV; obtain ⟨d0, d1, d2, d3, d4, d5, d6, d7, d8, d9⟩ := hSV; go_simp; try with_reducible rfl)
          simp only [Act.put, List.setIfInBounds_toArray, List.set_cons_zero, List.set_cons_succ]
          refine wpAnyG_take [14] (some 55) (i := 7) (v := ?vr237) rfl rfl (by kernel_rfl) (by kernel_rfl) (by kernel_rfl) (by kernel_rfl) (fun _ _ _ h => h) (Or.inl ⟨by rfl, ?yr237⟩) S9 ?rr237
          case yr237 => (intro V hSV; obtain ⟨d0, d1, d2, d3, d4, d5, d6, d7, d8, d9⟩ := hSV; go_simp; try with_reducible rfl)
          simp only [Act.put, List.setIfInBounds_toArray, List.set_cons_zero, List.set_cons_succ]
          refine wpAnyG_take [14] (some 56) (i := 8) (v := ?vr238) rfl rfl (by kernel_rfl) (by kernel_rfl) (by kernel_rfl) (by kernel_rfl) (fun _ _ _ h => h) (Or.inl ⟨by rfl, ?yr238⟩) S9 ?rr238
          case yr238 => (intro V hSV; obtain ⟨d0, d1, d2, d3, d4, d5, d6, d7, d8, d9⟩ := hSV; go_simp; try with_reducible rfl)
          simp only [Act.put, List.setIfInBounds_toArray, List.set_cons_zero, List.set_cons_succ]
          refine wpAnyG_take [14] (some 57) (i := 9) (v := ?vr239) rfl rfl (by kernel_rfl) (by kernel_rfl) (by kernel_rfl) (by kernel_rfl) (fun _ _ _ h => h) (Or.inl ⟨by rfl, ?yr239⟩) S9 ?rr239
          case yr239 => (intro V hSV; obtain ⟨d0, d1, d2, d3, d4, d5, d6, d7, d8, d9⟩ := hSV; go_simp; try with_reducible rfl)
          simp only [Act.put, List.setIfInBounds_toArray, List.set_cons_zero, List.set_cons_succ]
          clear S9
          have m0 := KN.out.cell 0
          have m1 := KN.out.cell 1
          have m2 := KN.out.cell 2
          have m3 := KN.out.cell 3
          have m4 := KN.out.cell 4
          have m5 := KN.out.cell 5
          have m6 := KN.out.cell 6
          simp only [List.getElem?_toArray, List.getElem?_cons_zero, List.getElem?_cons_succ] at m0 m1 m2 m3 m4 m5 m6
          have z0 := KN.out.free 0
          have z1 := KN.out.free 1
          have z2 := KN.out.free 2
          have z3 := KN.out.free 3
          have z4 := KN.out.free 4
          have z5 := KN.out.free 5
          have z6 := KN.out.free 6
          refine wpAnyG_one (i := 12) (by kernel_rfl) rfl (fun K hK => ?_)
          go_simp
          have X7 : Hid (Below v6.heap.size v6 ((((((((V23.setCell ⟨nb, 0, none⟩ (.int .i64 (S2.n : Int))).setCell ⟨nb, 1, none⟩ (.int .i64 (S2.d : Int))).setCell ⟨nb, 2, none⟩ (.int .i64 (S2.r : Int))).setCell ⟨nb, 3, none⟩ (.slice b1 S2.cr.length e1)).setCell ⟨nb, 4, none⟩ (.slice b2 S2.ws.length e2)).setCell ⟨nb, 5, none⟩ (.slice b3 S2.far.length e3)).setCell ⟨nb, 6, none⟩ (.slice b4 S2.bk.length e4)))) := below_seven X.out hnb _ _ _ _ _ _ _
          have N7 : Hid (Bk ((((((((V23.setCell ⟨nb, 0, none⟩ (.int .i64 (S2.n : Int))).setCell ⟨nb, 1, none⟩ (.int .i64 (S2.d : Int))).setCell ⟨nb, 2, none⟩ (.int .i64 (S2.r : Int))).setCell ⟨nb, 3, none⟩ (.slice b1 S2.cr.length e1)).setCell ⟨nb, 4, none⟩ (.slice b2 S2.ws.length e2)).setCell ⟨nb, 5, none⟩ (.slice b3 S2.far.length e3)).setCell ⟨nb, 6, none⟩ (.slice b4 S2.bk.length e4))) nb #[.int .i64 (S2.n : Int), .int .i64 (S2.d : Int), .int .i64 (S2.r : Int), .slice b1 S2.cr.length e1, .slice b2 S2.ws.length e2, .slice b3 S2.far.length e3, .slice b4 S2.bk.length e4] 30) := seven_at KN.out _ _ _ _ _ _ _
          have C7 : Hid (Bk ((((((((V23.setCell ⟨nb, 0, none⟩ (.int .i64 (S2.n : Int))).setCell ⟨nb, 1, none⟩ (.int .i64 (S2.d : Int))).setCell ⟨nb, 2, none⟩ (.int .i64 (S2.r : Int))).setCell ⟨nb, 3, none⟩ (.slice b1 S2.cr.length e1)).setCell ⟨nb, 4, none⟩ (.slice b2 S2.ws.length e2)).setCell ⟨nb, 5, none⟩ (.slice b3 S2.far.length e3)).setCell ⟨nb, 6, none⟩ (.slice b4 S2.bk.length e4))) cb2 #[.int .i64 0, .int .u64 0] 35) := seven_far KC.out (fun e => NEC.out e.symm) _ _ _ _ _ _ _
          have NV : ¬ Vb (.agg #[.int .i64 (S2.n : Int), .int .i64 (S2.d : Int), .int .i64 (S2.r : Int), .slice b1 S2.cr.length e1, .slice b2 S2.ws.length e2, .slice b3 S2.far.length e3, .slice b4 S2.bk.length e4]) nb := fun h => NKN.out nb h rfl
          have R7 : Hid (RefIn ((((((((V23.setCell ⟨nb, 0, none⟩ (.int .i64 (S2.n : Int))).setCell ⟨nb, 1, none⟩ (.int .i64 (S2.d : Int))).setCell ⟨nb, 2, none⟩ (.int .i64 (S2.r : Int))).setCell ⟨nb, 3, none⟩ (.slice b1 S2.cr.length e1)).setCell ⟨nb, 4, none⟩ (.slice b2 S2.ws.length e2)).setCell ⟨nb, 5, none⟩ (.slice b3 S2.far.length e3)).setCell ⟨nb, 6, none⟩ (.slice b4 S2.bk.length e4))) (.agg #[.int .i64 (S2.n : Int), .int .i64 (S2.d : Int), .int .i64 (S2.r : Int), .slice b1 S2.cr.length e1, .slice b2 S2.ws.length e2, .slice b3 S2.far.length e3, .slice b4 S2.bk.length e4]) S2) := ((((((RV.out.far NV).far NV).far NV).far NV).far NV).far NV).far NV
          refine hK.out _ _ (Or.inr (SS.out _ X7.out)) ?_
          clear hK K z0 z1 z2 z3 z4 z5 z6 m0 m1 m2 m3 m4 m5 m6 X KN KC RV NV
          generalize (((((((V23.setCell ⟨nb, 0, none⟩ (.int .i64 (S2.n : Int))).setCell ⟨nb, 1, none⟩ (.int .i64 (S2.d : Int))).setCell ⟨nb, 2, none⟩ (.int .i64 (S2.r : Int))).setCell ⟨nb, 3, none⟩ (.slice b1 S2.cr.length e1)).setCell ⟨nb, 4, none⟩ (.slice b2 S2.ws.length e2)).setCell ⟨nb, 5, none⟩ (.slice b3 S2.far.length e3)).setCell ⟨nb, 6, none⟩ (.slice b4 S2.bk.length e4)) = u7 at *
          try simp only [Act.put, List.setIfInBounds_toArray, List.set_cons_zero, List.set_cons_succ]
          have m0 := C7.out.cell 0
          have m1 := C7.out.cell 1
          simp only [List.getElem?_toArray, List.getElem?_cons_zero, List.getElem?_cons_succ] at m0 m1
          have z0 := C7.out.free 0
          have z1 := C7.out.free 1
          obtain ⟨cl, cw⟩ := cc1
          refine wpAnyG_one (i := 13) (by kernel_rfl) rfl (fun K hK => ?_)
          go_simp
          have X9 : Hid (Below v6.heap.size v6 (((u7.setCell ⟨cb2, 0, none⟩ (.int .i64 cl)).setCell ⟨cb2, 1, none⟩ (.int .u64 cw)))) := (X7.out.setCell hcb2 _).setCell hcb2 _
          have N9 : Hid (Bk (((u7.setCell ⟨cb2, 0, none⟩ (.int .i64 cl)).setCell ⟨cb2, 1, none⟩ (.int .u64 cw))) nb #[.int .i64 (S2.n : Int), .int .i64 (S2.d : Int), .int .i64 (S2.r : Int), .slice b1 S2.cr.length e1, .slice b2 S2.ws.length e2, .slice b3 S2.far.length e3, .slice b4 S2.bk.length e4] 30) := pair_far N7.out NEC.out _ _
          have C9 : Hid (Bk (((u7.setCell ⟨cb2, 0, none⟩ (.int .i64 cl)).setCell ⟨cb2, 1, none⟩ (.int .u64 cw))) cb2 #[.int .i64 cl, .int .u64 cw] 35) := pair_at C7.out _ _
          have NV : ¬ Vb (.agg #[.int .i64 (S2.n : Int), .int .i64 (S2.d : Int), .int .i64 (S2.r : Int), .slice b1 S2.cr.length e1, .slice b2 S2.ws.length e2, .slice b3 S2.far.length e3, .slice b4 S2.bk.length e4]) cb2 := fun h => NKC.out cb2 h rfl
          have R9 : Hid (RefIn (((u7.setCell ⟨cb2, 0, none⟩ (.int .i64 cl)).setCell ⟨cb2, 1, none⟩ (.int .u64 cw))) (.agg #[.int .i64 (S2.n : Int), .int .i64 (S2.d : Int), .int .i64 (S2.r : Int), .slice b1 S2.cr.length e1, .slice b2 S2.ws.length e2, .slice b3 S2.far.length e3, .slice b4 S2.bk.length e4]) S2) := (R7.out.far NV).far NV
          refine hK.out _ _ (Or.inr (SS.out _ X9.out)) ?_
          clear hK K z0 z1 m0 m1 X7 N7 C7 R7 NV
          generalize ((u7.setCell ⟨cb2, 0, none⟩ (.int .i64 cl)).setCell ⟨cb2, 1, none⟩ (.int .u64 cw)) = u9 at *
          try simp only [Act.put, List.setIfInBounds_toArray, List.set_cons_zero, List.set_cons_succ]
          refine wpAnyG_one (i := 14) (by kernel_rfl) rfl (fun K hK => ?_)
          go_simp
          refine hK.out _ _ (Or.inl (by kernel_rfl)) ?_
          refine wpAnyG_done (by kernel_rfl) ?_ _
          go_wp2
          go_meet
          exact ⟨nb, cb2, _, rfl, rfl, rfl, N9.out, R9.out, C9.out, X9.out, SRC.out⟩
    case rest =>
    obtain ⟨nb, cb2, cs', rfl, rfl, rfl, n9, r9, k9, x9, s9⟩ := hcut
    have R9 : Hid (RefIn wc (.agg cs') S2) := r9
    obtain ⟨b1, b2, b3, b4, e1', e2, e3', e4, ecs, -, -, -, -⟩ := r9.at_.cells
    subst ecs
    have N9 : Hid (Bk wc nb #[.int .i64 (S2.n : Int), .int .i64 (S2.d : Int), .int .i64 (S2.r : Int), .slice b1 S2.cr.length e1', .slice b2 S2.ws.length e2, .slice b3 S2.far.length e3', .slice b4 S2.bk.length e4] 30) := n9
    have B9 : Hid (Bk wc rb #[.int .i64 (S.n : Int), .int .i64 (S.d : Int), .int .i64 (S.r : Int), .slice a1 S.cr.length c1, .slice a2 S.ws.length c2, .slice a3 S.far.length c3, .slice a4 S.bk.length c4] 30) := RR6.out.bk.next x9
    have L9 : Hid (St w wc b S2 F6) := L6.out.next x9
    have K9 : Hid (Bk wc cb #[.int .i64 cc1.lane, .int .u64 cc1.word] 35) := K6.out.next x9
    have K9' : Hid (Bk wc cb2 #[.int .i64 cc1.lane, .int .u64 cc1.word] 35) := k9
    have NVB : Hid (¬ Vb (.agg #[.int .i64 (S2.n : Int), .int .i64 (S2.d : Int), .int .i64 (S2.r : Int), .slice b1 S2.cr.length e1', .slice b2 S2.ws.length e2, .slice b3 S2.far.length e3', .slice b4 S2.bk.length e4]) rb) := show ¬ Vb (.agg #[.int .i64 (S2.n : Int), .int .i64 (S2.d : Int), .int .i64 (S2.r : Int), .slice b1 S2.cr.length e1', .slice b2 S2.ws.length e2, .slice b3 S2.far.length e3', .slice b4 S2.bk.length e4]) rb from fun h => by
      rcases s9 rb h with h1 | h1
      · exact (RR6.out.off rb h1).2 rfl
      · have := RR6.out.bk.lt
        omega
    have OFF : Hid (∀ g', Vb (.agg #[.int .i64 (S2.n : Int), .int .i64 (S2.d : Int), .int .i64 (S2.r : Int), .slice b1 S2.cr.length e1', .slice b2 S2.ws.length e2, .slice b3 S2.far.length e3', .slice b4 S2.bk.length e4]) g' → ¬ F6 g' ∧ g' ≠ rb) := show ∀ g', Vb (.agg #[.int .i64 (S2.n : Int), .int .i64 (S2.d : Int), .int .i64 (S2.r : Int), .slice b1 S2.cr.length e1', .slice b2 S2.ws.length e2, .slice b3 S2.far.length e3', .slice b4 S2.bk.length e4]) g' → ¬ F6 g' ∧ g' ≠ rb from fun g' hg' => by
      rcases s9 g' hg' with h1 | h1
      · exact RR6.out.off g' h1
      · refine ⟨fun hf => ?_, fun e => ?_⟩
        · have := L6.out.lk.lt g' hf
          omega
        · have := RR6.out.bk.lt
          omega
    have OFB : Hid (¬ F6 rb) := RR6.out.offb
    have NC2 : Hid (rb ≠ cb2) := show rb ≠ cb2 from fun e => by
      have h1 := B9.out
      rw [e] at h1
      have h2 := k9
      unfold Bk at h1 h2
      rw [h1] at h2
      injection h2 with h2
      injection h2 with _ h2
      exact absurd h2 (by decide)
    clear r9 n9 k9 x9 s9 L6 RR6 K6 SS RSC LTV
    have m0 := N9.out.cell 0
    have m1 := N9.out.cell 1
    have m2 := N9.out.cell 2
    have m3 := N9.out.cell 3
    have m4 := N9.out.cell 4
    have m5 := N9.out.cell 5
    have m6 := N9.out.cell 6
    simp only [List.getElem?_toArray, List.getElem?_cons_zero, List.getElem?_cons_succ] at m0 m1 m2 m3 m4 m5 m6
    have z0 := B9.out.free 0
    have z1 := B9.out.free 1
    have z2 := B9.out.free 2
    have z3 := B9.out.free 3
    have z4 := B9.out.free 4
    have z5 := B9.out.free 5
    have z6 := B9.out.free 6
    have n0 := B9.out.cell 0
    have n1 := B9.out.cell 1
    have n2 := B9.out.cell 2
    have n3 := B9.out.cell 3
    have n4 := B9.out.cell 4
    have n5 := B9.out.cell 5
    have n6 := B9.out.cell 6
    simp only [List.getElem?_toArray, List.getElem?_cons_zero, List.getElem?_cons_succ] at n0 n1 n2 n3 n4 n5 n6
    go_upto_region 11 with fail
    have L10 : Hid (St w ((((((((wc.setCell ⟨rb, 0, none⟩ (.int .i64 (S2.n : Int))).setCell ⟨rb, 1, none⟩ (.int .i64 (S2.d : Int))).setCell ⟨rb, 2, none⟩ (.int .i64 (S2.r : Int))).setCell ⟨rb, 3, none⟩ (.slice b1 S2.cr.length e1')).setCell ⟨rb, 4, none⟩ (.slice b2 S2.ws.length e2)).setCell ⟨rb, 5, none⟩ (.slice b3 S2.far.length e3')).setCell ⟨rb, 6, none⟩ (.slice b4 S2.bk.length e4))) b S2 F6) := ((((((L9.out.far OFB.out hrb).far OFB.out hrb).far OFB.out hrb).far OFB.out hrb).far OFB.out hrb).far OFB.out hrb).far OFB.out hrb
    have RR10 : Hid (Rb ((((((((wc.setCell ⟨rb, 0, none⟩ (.int .i64 (S2.n : Int))).setCell ⟨rb, 1, none⟩ (.int .i64 (S2.d : Int))).setCell ⟨rb, 2, none⟩ (.int .i64 (S2.r : Int))).setCell ⟨rb, 3, none⟩ (.slice b1 S2.cr.length e1')).setCell ⟨rb, 4, none⟩ (.slice b2 S2.ws.length e2)).setCell ⟨rb, 5, none⟩ (.slice b3 S2.far.length e3')).setCell ⟨rb, 6, none⟩ (.slice b4 S2.bk.length e4))) rb F6 #[.int .i64 (S2.n : Int), .int .i64 (S2.d : Int), .int .i64 (S2.r : Int), .slice b1 S2.cr.length e1', .slice b2 S2.ws.length e2, .slice b3 S2.far.length e3', .slice b4 S2.bk.length e4] S2) := show Rb _ _ _ _ _ from ⟨((((((R9.out.far NVB.out).far NVB.out).far NVB.out).far NVB.out).far NVB.out).far NVB.out).far NVB.out, seven_at B9.out _ _ _ _ _ _ _, OFF.out, OFB.out⟩
    have K10 : Hid (Bk ((((((((wc.setCell ⟨rb, 0, none⟩ (.int .i64 (S2.n : Int))).setCell ⟨rb, 1, none⟩ (.int .i64 (S2.d : Int))).setCell ⟨rb, 2, none⟩ (.int .i64 (S2.r : Int))).setCell ⟨rb, 3, none⟩ (.slice b1 S2.cr.length e1')).setCell ⟨rb, 4, none⟩ (.slice b2 S2.ws.length e2)).setCell ⟨rb, 5, none⟩ (.slice b3 S2.far.length e3')).setCell ⟨rb, 6, none⟩ (.slice b4 S2.bk.length e4))) cb #[.int .i64 cc1.lane, .int .u64 cc1.word] 35) := seven_far K9.out (fun e => NRC.out e.symm) _ _ _ _ _ _ _
    have K10' : Hid (Bk ((((((((wc.setCell ⟨rb, 0, none⟩ (.int .i64 (S2.n : Int))).setCell ⟨rb, 1, none⟩ (.int .i64 (S2.d : Int))).setCell ⟨rb, 2, none⟩ (.int .i64 (S2.r : Int))).setCell ⟨rb, 3, none⟩ (.slice b1 S2.cr.length e1')).setCell ⟨rb, 4, none⟩ (.slice b2 S2.ws.length e2)).setCell ⟨rb, 5, none⟩ (.slice b3 S2.far.length e3')).setCell ⟨rb, 6, none⟩ (.slice b4 S2.bk.length e4))) cb2 #[.int .i64 cc1.lane, .int .u64 cc1.word] 35) := seven_far K9'.out (fun e => NC2.out e.symm) _ _ _ _ _ _ _
    clear m0 m1 m2 m3 m4 m5 m6 z0 z1 z2 z3 z4 z5 z6 n0 n1 n2 n3 n4 n5 n6 L9 R9 B9 K9 K9' N9 NVB OFF OFB NC2 NRC HY
    generalize (((((((wc.setCell ⟨rb, 0, none⟩ (.int .i64 (S2.n : Int))).setCell ⟨rb, 1, none⟩ (.int .i64 (S2.d : Int))).setCell ⟨rb, 2, none⟩ (.int .i64 (S2.r : Int))).setCell ⟨rb, 3, none⟩ (.slice b1 S2.cr.length e1')).setCell ⟨rb, 4, none⟩ (.slice b2 S2.ws.length e2)).setCell ⟨rb, 5, none⟩ (.slice b3 S2.far.length e3')).setCell ⟨rb, 6, none⟩ (.slice b4 S2.bk.length e4)) = u at *
    have m0 := K10.out.cell 0
    have m1 := K10.out.cell 1
    simp only [List.getElem?_toArray, List.getElem?_cons_zero, List.getElem?_cons_succ] at m0 m1
    have q0 := K10'.out.cell 0
    have q1 := K10'.out.cell 1
    simp only [List.getElem?_toArray, List.getElem?_cons_zero, List.getElem?_cons_succ] at q0 q1
    go_wp2_with fail
    go_loopw [13] (fun x wr => ∃ m : Nat, m ≤ S2.n + 2 ∧ x = .int .i64 ((m : Int) - 1) ∧ St w wr b S2 F6 ∧ Rb wr rb F6 #[.int .i64 (S2.n : Int), .int .i64 (S2.d : Int), .int .i64 (S2.r : Int), .slice b1 S2.cr.length e1', .slice b2 S2.ws.length e2, .slice b3 S2.far.length e3', .slice b4 S2.bk.length e4] S2) (fun x _ => S2.n + 2 - (RowKit.intOf x + 1).toNat)
    case atStart => exact ⟨0, by omega, rfl, L10.out, RR10.out⟩
    case round =>
    obtain ⟨m, hm, rfl, l, rr⟩ := hrel
    clear L10 RR10 K10 K10' m0 m1 q0 q1
    have L : Hid (St w wr b S2 F6) := l
    have RR : Hid (Rb wr rb F6 #[.int .i64 (S2.n : Int), .int .i64 (S2.d : Int), .int .i64 (S2.r : Int), .slice b1 S2.cr.length e1', .slice b2 S2.ws.length e2, .slice b3 S2.far.length e3', .slice b4 S2.bk.length e4] S2) := rr
    clear l rr
    have hn8 : S2.n ≤ 8 := HOK2.out.n8
    obtain ⟨kx, hkx⟩ : ∃ kx, (m : Int) - 1 = kx := ⟨_, rfl⟩
    have hk1 : -1 ≤ kx := by omega
    have hk2 : kx ≤ (S2.n : Int) + 1 := by omega
    have HKX : Hid ((m : Int) - 1 = kx) := hkx
    rw [hkx]
    clear hkx
    have m0 := RR.out.bk.cell 0
    have m1 := RR.out.bk.cell 1
    have m2 := RR.out.bk.cell 2
    have m3 := RR.out.bk.cell 3
    have m4 := RR.out.bk.cell 4
    have m5 := RR.out.bk.cell 5
    have m6 := RR.out.bk.cell 6
    simp only [List.getElem?_toArray, List.getElem?_cons_zero, List.getElem?_cons_succ] at m0 m1 m2 m3 m4 m5 m6
    by_cases hle : kx ≤ (S2.n : Int)
    case neg =>
      clear hk1 hk2
      go_wp2
      exact ⟨⟨j + 1, S2, F6, _, by omega, by go_num, HOK2.out, L.out, RR.out⟩, by simp [RowKit.intOf]; omega⟩
    go_upto_region 16 with fail
    go_cut [14] from 73 to 97 (fun z wc => z = .bool (mayS S2 kx) ∧ wr = wc)
    case first =>
      by_cases hk0 : 0 ≤ kx
      case neg =>
        have hv : mayS S2 kx = false := by
          unfold mayS
          rw [show inL S2 kx = false from by unfold inL; simp; omega]
          rfl
        have HV : Hid (mayS S2 kx = false) := hv
        clear hv
        go_wp2
        go_meet
        exact ⟨by rw [HV.out], rfl⟩
      by_cases hkn : kx < (S2.n : Int)
      case neg =>
        have hv : mayS S2 kx = false := by
          unfold mayS
          rw [show inL S2 kx = false from by unfold inL; simp; omega]
          rfl
        have HV : Hid (mayS S2 kx = false) := hv
        clear hv
        go_wp2
        go_meet
        exact ⟨by rw [HV.out], rfl⟩
      obtain ⟨q, rfl⟩ : ∃ q : Nat, kx = (q : Int) := ⟨kx.toNat, by omega⟩
      have HV : Hid (mayS S2 q = (decide (0 < S2.cr.getD q 0) && decide (S2.ws.length < S2.r))) := show mayS S2 q = (decide (0 < S2.cr.getD q 0) && decide (S2.ws.length < S2.r)) from by
        unfold mayS
        rw [inL_mk (by omega), Int.toNat_natCast, Bool.true_and]
      obtain ⟨x1, x2, x3, x4, y1, y2, y3, y4, ecs, rdc, -, -, -⟩ := RR.out.in_.at_.cells
      simp only [Array.mk.injEq, List.cons.injEq, Value.slice.injEq, and_true, true_and] at ecs
      obtain ⟨⟨rfl, rfl⟩, -⟩ := ecs
      have hqc : q < S2.cr.length := by rw [HOK2.out.cl]; omega
      obtain ⟨g1, o1, rfl, hg1, hcq⟩ := rdc q _ (vi_at hqc)
      have f1 : (q : Int) < (S2.cr.length : Int) := by omega
      generalize S2.cr.getD q 0 = x at *
      by_cases hx : 0 < x
      · by_cases hl : S2.ws.length < S2.r
        · have f2 : (S2.ws.length : Int) < (S2.r : Int) := by omega
          go_wp2
          go_meet
          exact ⟨by rw [HV.out, decide_eq_true hx, decide_eq_true hl]; rfl, rfl⟩
        · have f2 : ¬ (S2.ws.length : Int) < (S2.r : Int) := by omega
          go_wp2
          go_meet
          exact ⟨by rw [HV.out, decide_eq_false hl]; simp, rfl⟩
      · go_wp2
        go_meet
        exact ⟨by rw [HV.out, decide_eq_false (by omega : ¬ 0 < x)]; rfl, rfl⟩
    case rest =>
    obtain ⟨rfl, rfl⟩ := hcut
    have hz : rb < wr.heap.size := RR.out.bk.lt
    obtain ⟨x1, x2, x3, x4, y1, y2, y3, y4, ecs, rdc, rdw, rdf, rdb⟩ := RR.out.in_.at_.cells
    simp only [Array.mk.injEq, List.cons.injEq, Value.slice.injEq, and_true, true_and] at ecs
    obtain ⟨⟨rfl, rfl⟩, ⟨rfl, rfl⟩, ⟨rfl, rfl⟩, rfl, rfl⟩ := ecs
    have n0 := fun p : Gw wr => p.cell hz m0
    have n1 := fun p : Gw wr => p.cell hz m1
    have n2 := fun p : Gw wr => p.cell hz m2
    have n3 := fun p : Gw wr => p.cell hz m3
    have n4 := fun p : Gw wr => p.cell hz m4
    have n5 := fun p : Gw wr => p.cell hz m5
    have n6 := fun p : Gw wr => p.cell hz m6
    have K1 := fun p : Gw wr => link_credits (L.out.lk.next p.le) kx
    have K2 := fun p : Gw wr => has_any S2 b1 b2 b3 b4 e1' e2 e3' e4 S2.cr b1 e1' kx p.v (rdc.below p.le) HOK2.out.cl
    have K3 := fun p : Gw wr => link_far (L.out.lk.next p.le) kx
    have K4 := fun p : Gw wr => has_any S2 b1 b2 b3 b4 e1' e2 e3' e4 S2.far b3 e3' kx p.v (rdf.below p.le) HOK2.out.fl
    have K5 := fun p : Gw wr => link_flying (L.out.lk.next p.le) kx
    have K6 := fun p : Gw wr => fly_any S2 b1 b2 b3 b4 e1' e2 e3' e4 kx p.v (rdw.below p.le) (by have h1 := HOK2.out.wl; have h2 := HOK2.out.r64; omega)
    have K7 := fun p : Gw wr => link_coming (L.out.lk.next p.le) kx
    have K8 := fun p : Gw wr => com_any S2 b1 b2 b3 b4 e1' e2 e3' e4 kx p.v (rdb.below p.le) (by have h1 := HOK2.out.bk_le; have h2 : S2.n * S2.d ≤ 8 * 64 := Nat.mul_le_mul HOK2.out.n8 HOK2.out.d64; omega)
    have K9 := fun p : Gw wr => link_may (L.out.lk.next p.le) kx
    unfold lsv at K2 K4 K6 K8
    generalize hasN S2.cr kx = v1 at *
    generalize hasN S2.far kx = v2 at *
    generalize fly S2.ws kx = v3 at *
    generalize com S2.bk kx = v4 at *
    generalize mayS S2 kx = v5 at *
    go_wp2_with fail
    clear m0 m1 m2 m3 m4 m5 m6 rdc rdw rdf rdb
    refine region_gw (by kernel_rfl) (by kernel_rfl) ?_
    repeat (first
      | go_big_quiet_skip
      | quiet_step (first
        | (go_at_call 16; with_reducible exact quiet_below (K1 _))
        | (go_at_call 17; first | with_reducible exact quiet_below (K2 _) | with_reducible exact quiet_below (K4 _))
        | (go_at_call 18; with_reducible exact quiet_below (K3 _))
        | (go_at_call 19; with_reducible exact quiet_below (K5 _))
        | (go_at_call 20; with_reducible exact quiet_below (K6 _))
        | (go_at_call 21; with_reducible exact quiet_below (K7 _))
        | (go_at_call 22; with_reducible exact quiet_below (K8 _))
        | (go_at_call 23; with_reducible exact quiet_below (K9 _))))
    refine wpQuiet_nil ?_
    intro uw hw'
    obtain ⟨⟨u', hb⟩, e⟩ := hw'
    obtain rfl : uw = u' := e
    have L2 : Hid (St w uw b S2 F6) := L.out.next hb
    have RR2 : Hid (Rb uw rb F6 _ S2) := RR.out.next hb
    clear L RR hb n0 n1 n2 n3 n4 n5 n6 K1 K2 K3 K4 K5 K6 K7 K8 K9
    go_wp2
    exact ⟨⟨m + 1, by have := HKX.out; omega, by rw [show ((m + 1 : Nat) : Int) - 1 = kx + 1 by have := HKX.out; omega], L2.out, RR2.out⟩, by simp [RowKit.intOf]; omega⟩
end Go.Proofs.Ytihfekcdghmkhaa
