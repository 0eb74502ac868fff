/-
  The walk of the law's back: a parcel as the document has it.
-/
import Derived.Test.YtoejpngdkcnnhaaGreatGoodR
namespace Go.Proofs.YtoejpngdkcnnhaaGreat
open Go.RowKit

theorem Tryz.info59 : (Tryz.prog.info? 59).map (fun i => (i.zero, i.size, i.bytes)) = some (some (.agg #[.int .i64 0, .int .i64 0]), 2, 16) := by kernel_rfl

set_option maxRecDepth 100000 in
set_option maxHeartbeats 16000000 in
theorem nback_any (s : Int) (c : Bool) (a : Option Addr) (cap : Nat) (x : ByteArray) (hs : List (Int × Int)) (w : World) (hl : hs.length ≤ 5000) (hr : Rd w a (pc hs)) :
    Calls Tryz.prog 11 #[pcv s c (.slice a hs.length cap) x] w (PcR w ⟨s, c, hs, x⟩) := by
  obtain ⟨i0, ki, hz0, hz1, hz2⟩ := info_parts Tryz.info59
  have HR : Hid (Rd w a (pc hs)) := hr
  have ST : Hid (∀ k, k < hs.length → pc (hs.take k) ++ [.int .i64 (hs.getD k (0, 0)).1, .int .i64 (hs.getD k (0, 0)).2] = pc (hs.take (k + 1))) := pc_take hs
  obtain ⟨n, hn⟩ : ∃ n, hs.length = n := ⟨_, rfl⟩
  have HN : Hid (hs.length = n) := hn
  unfold PcR
  simp only
  rw [hn] at hl ST ⊢
  clear hr hn
  simp only [pcv, pcc] at *
  go_enter Tryz.func11, Tryz.ntmps11
  go_wp2_with fail
  have B0 := three_blocks w #[.int .i64 s, .bool c, .slice a n cap, .string x] #[.int .i64 0, .bool false, .slice none 0 0, .string ByteArray.empty] #[.int .i64 s, .bool c, .slice none 0 0, .string x] 34 42 42
  go_loopw [4] (fun i wr => ∃ (k : Nat) (v : Value), k ≤ n ∧ i = .int .i64 k ∧ Bk wr w.heap.size (pcc s c (.slice a n cap) x) 34 ∧ Bk wr (w.heap.size + 1) (pcc 0 false (.slice none 0 0) ByteArray.empty) 42 ∧ Bk wr (w.heap.size + 1 + 1) (pcc s c v x) 42 ∧ OwnK 59 2 wr (w.heap.size + 3) v k (pc (hs.take k)) ∧ Below w.heap.size w wr ∧ w.heap.size + 3 ≤ wr.heap.size) (fun i _ => n - (RowKit.intOf i).toNat)
  case atStart => exact ⟨0, .slice none 0 0, Nat.zero_le _, rfl, B0.out.1, B0.out.2.1, B0.out.2.2.1, OwnK.nil _ _ _ _, B0.out.2.2.2.1, B0.out.2.2.2.2⟩
  case round =>
    obtain ⟨k, v, hk, rfl, h0, h1, h2, own, hb, hsz⟩ := hrel
    have HB : Hid (Below w.heap.size w wr) := hb
    have H0 : Hid (Bk wr w.heap.size (pcc s c (.slice a n cap) x) 34) := h0
    have H1 : Hid (Bk wr (w.heap.size + 1) (pcc 0 false (.slice none 0 0) ByteArray.empty) 42) := h1
    have H2 : Hid (Bk wr (w.heap.size + 1 + 1) (pcc s c v x) 42) := h2
    have HO : Hid (OwnK 59 2 wr (w.heap.size + 3) v k (pc (hs.take k))) := own
    have c2 : wr.cell? ⟨w.heap.size, 2, none⟩ = some (.slice a n cap) := h0.cell 2
    clear h0 h1 h2 B0 hb own
    by_cases hlt : k < n
    · have e1 : (k : Int) < (n : Int) := by omega
      have e2 : (0 : Int) ≤ (k : Int) := by omega
      obtain ⟨g, o, rfl, hg, c3, c4⟩ := HR.out.pair (k := k) (by rw [HN.out]; exact hlt)
      have hst := ST.out k hlt
      generalize (hs.getD k (0, 0)).1 = p at *
      generalize (hs.getD k (0, 0)).2 = q at *
      have HST : Hid (pc (hs.take k) ++ [.int .i64 p, .int .i64 q] = pc (hs.take (k + 1))) := hst
      have SS : ∀ V, Bk V w.heap.size (pcc s c (.slice (some ⟨g, o, none⟩) n cap) x) 34 → Below w.heap.size w V → V.cell? ⟨w.heap.size, 2, none⟩ = some (.slice (some ⟨g, o, none⟩) n cap) ∧ V.cell? ⟨g, o + k * 2, none⟩ = some (.int .i64 p) ∧ V.cell? ⟨g, o + k * 2 + 1, none⟩ = some (.int .i64 q) :=
        fun V h hb => ⟨h.cell 2, (hb.cell (p := ⟨g, o + k * 2, none⟩) hg).trans c3, (hb.cell (p := ⟨g, o + k * 2 + 1, none⟩) hg).trans c4⟩
      have S1 := SS wr.drew H0.out.drew HB.out.drew
      have A1 : Below wr.heap.size wr ((wr.alloc (.cells #[.int .i64 p, .int .i64 q] 59)).drew) := ((Below.refl _ _).alloc (Nat.le_refl _) _).drew
      have S2 := SS ((wr.alloc (.cells #[.int .i64 p, .int .i64 q] 59)).drew) (H0.out.next A1) (HB.out.trans (A1.mono HB.out.size))
      have O1 : wr.drew.cell? ⟨w.heap.size + 1 + 1, 2, none⟩ = some v := H2.out.cell 2
      have O2 : ((wr.alloc (.cells #[.int .i64 p, .int .i64 q] 59)).drew).cell? ⟨w.heap.size + 1 + 1, 2, none⟩ = some v := (H2.out.next A1).cell 2
      have OW : OwnK 59 2 ((wr.alloc (.cells #[.int .i64 p, .int .i64 q] 59)).drew) (w.heap.size + 3) v k (pc (hs.take k)) := HO.out.below A1
      have NW : ∀ (j : Nat) (u : Value), ([.int .i64 p, .int .i64 q] : List Value)[j]? = some u → ((wr.alloc (.cells #[.int .i64 p, .int .i64 q] 59)).drew).cell? ⟨wr.heap.size, j, none⟩ = some u := fun j u hj => by
        have := cell_of (heap_alloc_new wr (.cells #[.int .i64 p, .int .i64 q] 59)) j
        exact this.trans (by simpa using hj)
      have ON : ∀ u ∈ ([.int .i64 p, .int .i64 q] : List Value), u.oneCell' = true := fun u hu => by
        simp at hu
        rcases hu with rfl | rfl <;> rfl
      have hk6 : k ≤ 1000000 := by omega
      have hbs : w.heap.size + 3 ≤ ((wr.alloc (.cells #[.int .i64 p, .int .i64 q] 59)).drew).heap.size := Nat.le_trans hsz A1.size
      have F0 := H0.out.next A1
      have F1 := H1.out.next A1
      have F2 := H2.out.next A1
      have FB := HB.out.trans (A1.mono HB.out.size)
      have n0 : v.ownBlock ≠ some w.heap.size := OW.ne F0 (by decide)
      have n1 : v.ownBlock ≠ some (w.heap.size + 1) := OW.ne F1 (by decide)
      have n2 : v.ownBlock ≠ some (w.heap.size + 1 + 1) := OW.ne F2 (by decide)
      have nl : ∀ r, v.ownBlock = some r → w.heap.size + 3 ≤ r := fun r hr => (OW.lt hr).1
      have nl2 : ∀ r, v.ownBlock = some r → w.heap.size ≤ r := fun r hr => Nat.le_trans (by omega) (nl r hr)
      have hbs2 : w.heap.size ≤ w.heap.size + 1 + 1 := by omega
      have hne2 : w.heap.size ≠ w.heap.size + 1 + 1 := by omega
      have hne3 : w.heap.size + 1 ≠ w.heap.size + 1 + 1 := by omega
      clear c3 c4 hst A1 hg
      go_wp2_with fail
      refine wp_region_G (fun V => V.cell? ⟨w.heap.size, 2, none⟩ = some (.slice (some ⟨g, o, none⟩) n cap) ∧ V.cell? ⟨g, o + k * 2, none⟩ = some (.int .i64 p) ∧ V.cell? ⟨g, o + k * 2 + 1, none⟩ = some (.int .i64 q) ∧ V.cell? ⟨w.heap.size + 1 + 1, 2, none⟩ = some v) 18 (by kernel_rfl) ?_
      have S0 : (fun V : World => V.cell? ⟨w.heap.size, 2, none⟩ = some (.slice (some ⟨g, o, none⟩) n cap) ∧ V.cell? ⟨g, o + k * 2, none⟩ = some (.int .i64 p) ∧ V.cell? ⟨g, o + k * 2 + 1, none⟩ = some (.int .i64 q) ∧ V.cell? ⟨w.heap.size + 1 + 1, 2, none⟩ = some v) wr.drew := ⟨S1.1, S1.2.1, S1.2.2, O1⟩
      refine wpAnyG_take [17, 18] (some 19) (i := 0) (v := ?v0) rfl rfl (by kernel_rfl) (by kernel_rfl) (by kernel_rfl) (by kernel_rfl) (fun _ _ _ h => h) (Or.inl ⟨by rfl, ?y0⟩) S0 ?r0
      case y0 => (intro V hSV; obtain ⟨d0, d1, d2, d3⟩ := hSV; go_simp; try with_reducible rfl)
      simp only [Act.put, List.setIfInBounds_toArray, List.set_cons_zero, List.set_cons_succ]
      refine wpAnyG_take [17, 18] (some 20) (i := 1) (v := ?v1) rfl rfl (by kernel_rfl) (by kernel_rfl) (by kernel_rfl) (by kernel_rfl) (fun _ _ _ h => h) (Or.inl ⟨by rfl, ?y1⟩) S0 ?r1
      case y1 => (intro V hSV; obtain ⟨d0, d1, d2, d3⟩ := hSV; go_simp; try with_reducible rfl)
      simp only [Act.put, List.setIfInBounds_toArray, List.set_cons_zero, List.set_cons_succ]
      refine wpAnyG_take [17, 18] (some 21) (i := 2) (v := ?v2) rfl rfl (by kernel_rfl) (by kernel_rfl) (by kernel_rfl) (by kernel_rfl) (fun _ _ _ h => h) (Or.inl ⟨by rfl, ?y2⟩) S0 ?r2
      case y2 => (intro V hSV; obtain ⟨d0, d1, d2, d3⟩ := hSV; go_simp; try with_reducible rfl)
      simp only [Act.put, List.setIfInBounds_toArray, List.set_cons_zero, List.set_cons_succ]
      refine wpAnyG_take [17, 18] (some 22) (i := 3) (v := ?v3) rfl rfl (by kernel_rfl) (by kernel_rfl) (by kernel_rfl) (by kernel_rfl) (fun _ _ _ h => h) (Or.inl ⟨by rfl, ?y3⟩) S0 ?r3
      case y3 => (intro V hSV; obtain ⟨d0, d1, d2, d3⟩ := hSV; go_simp; try with_reducible rfl)
      simp only [Act.put, List.setIfInBounds_toArray, List.set_cons_zero, List.set_cons_succ]
      refine wpAnyG_take [17, 18] (some 23) (i := 4) (v := ?v4) rfl rfl (by kernel_rfl) (by kernel_rfl) (by kernel_rfl) (by kernel_rfl) (fun _ _ _ h => h) (Or.inl ⟨by rfl, ?y4⟩) S0 ?r4
      case y4 => (intro V hSV; obtain ⟨d0, d1, d2, d3⟩ := hSV; go_simp; try with_reducible rfl)
      simp only [Act.put, List.setIfInBounds_toArray, List.set_cons_zero, List.set_cons_succ]
      refine wpAnyG_take [17, 18] (some 24) (i := 5) (v := ?v5) rfl rfl (by kernel_rfl) (by kernel_rfl) (by kernel_rfl) (by kernel_rfl) (fun _ _ _ h => h) (Or.inl ⟨by rfl, ?y5⟩) S0 ?r5
      case y5 => (intro V hSV; obtain ⟨d0, d1, d2, d3⟩ := hSV; go_simp; try with_reducible rfl)
      simp only [Act.put, List.setIfInBounds_toArray, List.set_cons_zero, List.set_cons_succ]
      refine wpAnyG_take [17, 18] (some 25) (i := 6) (v := ?v6) rfl rfl (by kernel_rfl) (by kernel_rfl) (by kernel_rfl) (by kernel_rfl) (fun _ _ _ h => h) (Or.inl ⟨by rfl, ?y6⟩) S0 ?r6
      case y6 => (intro V hSV; obtain ⟨d0, d1, d2, d3⟩ := hSV; go_simp; try with_reducible rfl)
      simp only [Act.put, List.setIfInBounds_toArray, List.set_cons_zero, List.set_cons_succ]
      refine wpAnyG_take [17, 18] (some 26) (i := 7) (v := ?v7) rfl rfl (by kernel_rfl) (by kernel_rfl) (by kernel_rfl) (by kernel_rfl) (fun _ _ _ h => h) (Or.inl ⟨by rfl, ?y7⟩) S0 ?r7
      case y7 => (intro V hSV; obtain ⟨d0, d1, d2, d3⟩ := hSV; go_simp; try with_reducible rfl)
      simp only [Act.put, List.setIfInBounds_toArray, List.set_cons_zero, List.set_cons_succ]
      refine wpAnyG_take [17, 18] (some 27) (i := 8) (v := ?v8) rfl rfl (by kernel_rfl) (by kernel_rfl) (by kernel_rfl) (by kernel_rfl) (fun _ _ _ h => h) (Or.inl ⟨by rfl, ?y8⟩) S0 ?r8
      case y8 => (intro V hSV; obtain ⟨d0, d1, d2, d3⟩ := hSV; go_simp; try with_reducible rfl)
      simp only [Act.put, List.setIfInBounds_toArray, List.set_cons_zero, List.set_cons_succ]
      refine wpAnyG_take [17, 18] (some 28) (i := 9) (v := ?v9) rfl rfl (by kernel_rfl) (by kernel_rfl) (by kernel_rfl) (by kernel_rfl) (fun _ _ _ h => h) (Or.inl ⟨by rfl, ?y9⟩) S0 ?r9
      case y9 => (intro V hSV; obtain ⟨d0, d1, d2, d3⟩ := hSV; go_simp; try with_reducible rfl)
      simp only [Act.put, List.setIfInBounds_toArray, List.set_cons_zero, List.set_cons_succ]
      refine wpAnyG_take [17, 18] (some 29) (i := 10) (v := ?v10) rfl rfl (by kernel_rfl) (by kernel_rfl) (by kernel_rfl) (by kernel_rfl) (fun _ _ _ h => h) (Or.inl ⟨by rfl, ?y10⟩) S0 ?r10
      case y10 => (intro V hSV; obtain ⟨d0, d1, d2, d3⟩ := hSV; go_simp; try with_reducible rfl)
      simp only [Act.put, List.setIfInBounds_toArray, List.set_cons_zero, List.set_cons_succ]
      refine wpAnyG_take [17, 18] (some 30) (i := 11) (v := ?v11) rfl rfl (by kernel_rfl) (by kernel_rfl) (by kernel_rfl) (by kernel_rfl) (fun _ _ _ h => h) (Or.inl ⟨by rfl, ?y11⟩) S0 ?r11
      case y11 => (intro V hSV; obtain ⟨d0, d1, d2, d3⟩ := hSV; go_simp; try with_reducible rfl)
      simp only [Act.put, List.setIfInBounds_toArray, List.set_cons_zero, List.set_cons_succ]
      refine wpAnyG_take [17, 18] (some 31) (i := 12) (v := ?v12) rfl rfl (by kernel_rfl) (by kernel_rfl) (by kernel_rfl) (by kernel_rfl) (fun _ _ _ h => h) (Or.inl ⟨by rfl, ?y12⟩) S0 ?r12
      case y12 => (intro V hSV; obtain ⟨d0, d1, d2, d3⟩ := hSV; go_simp; try with_reducible rfl)
      simp only [Act.put, List.setIfInBounds_toArray, List.set_cons_zero, List.set_cons_succ]
      refine wpAnyG_take [17, 18] (some 32) (i := 13) (v := ?v13) rfl rfl (by kernel_rfl) (by kernel_rfl) (by kernel_rfl) (by kernel_rfl) (fun _ _ _ h => h) (Or.inl ⟨by rfl, ?y13⟩) S0 ?r13
      case y13 => (intro V hSV; obtain ⟨d0, d1, d2, d3⟩ := hSV; go_simp; try with_reducible rfl)
      simp only [Act.put, List.setIfInBounds_toArray, List.set_cons_zero, List.set_cons_succ]
      refine wpAnyG_take [17, 18] (some 33) (i := 14) (v := ?v14) rfl rfl (by kernel_rfl) (by kernel_rfl) (by kernel_rfl) (by kernel_rfl) (fun _ _ _ h => h) (Or.inl ⟨by rfl, ?y14⟩) S0 ?r14
      case y14 => (intro V hSV; obtain ⟨d0, d1, d2, d3⟩ := hSV; go_simp; try with_reducible rfl)
      simp only [Act.put, List.setIfInBounds_toArray, List.set_cons_zero, List.set_cons_succ]
      refine wpAnyG_one (i := 15) (by kernel_rfl) rfl (fun K hK => ?_)
      go_simp
      refine hK.out _ _ (Or.inr ⟨S2.1, S2.2.1, S2.2.2, O2⟩) ?_
      clear hK K
      refine wpAnyG_one (i := 16) (by kernel_rfl) rfl (fun K hK => ?_)
      refine step_app_k (by rfl) _ _ 40 59 i0 (.agg #[.int .i64 0, .int .i64 0]) 2 16 (by rfl) Tryz.underlying40 ki hz0 hz1 hz2 rfl (by decide) (by decide) (w.heap.size + 3) _ v k (pc (hs.take k)) [.int .i64 p, .int .i64 q] wr.heap.size (by rfl) OW (by rfl) rfl NW ON hk6 hbs ?_
      intro v1' wb ow gw
      obtain ⟨ra, za, rfl, -, -, -⟩ := ow.rd (by decide)
      have G0 := F0.kept gw n0
      have G1 := F1.kept gw n1
      have G2 := F2.kept gw n2
      have GB := Below.grown FB gw (Nat.le_of_lt F0.lt) nl2
      have GS := Nat.le_trans hbs gw.size
      have C3 := G2.cell 2
      have Z3 := G2.free 2
      have S3 := SS wb G0 GB
      have S4 : (fun V : World => V.cell? ⟨w.heap.size, 2, none⟩ = some (.slice (some ⟨g, o, none⟩) n cap) ∧ V.cell? ⟨g, o + k * 2, none⟩ = some (.int .i64 p) ∧ V.cell? ⟨g, o + k * 2 + 1, none⟩ = some (.int .i64 q) ∧ V.cell? ⟨w.heap.size + 1 + 1, 2, none⟩ = some v) wb := ⟨S3.1, S3.2.1, S3.2.2, C3⟩
      refine hK.out _ _ (Or.inr S4) ?_
      clear hK K
      simp only [Act.put, List.setIfInBounds_toArray]
      refine wpAnyG_take [18] (some 36) (i := 17) (v := ?v17) rfl rfl (by kernel_rfl) (by kernel_rfl) (by kernel_rfl) (by kernel_rfl) (fun _ _ _ h => h) (Or.inl ⟨by rfl, ?y17⟩) S4 ?r17
      case y17 => (intro V hSV; obtain ⟨d0, d1, d2, d3⟩ := hSV; go_simp; try with_reducible rfl)
      simp only [Act.put]
      refine wpAnyG_one (i := 18) (by kernel_rfl) rfl (fun K hK => ?_)
      go_simp
      refine hK.out _ _ (Or.inl (by kernel_rfl)) ?_
      clear hK K
      refine wpAnyG_done (by kernel_rfl) ?_ _
      have X0 : Hid (Bk (wb.setCell ⟨w.heap.size + 1 + 1, 2, none⟩ (.slice ra (k + 1) za)) w.heap.size (pcc s c (.slice (some ⟨g, o, none⟩) n cap) x) 34) := G0.far hne2
      have X1 : Hid (Bk (wb.setCell ⟨w.heap.size + 1 + 1, 2, none⟩ (.slice ra (k + 1) za)) (w.heap.size + 1) (pcc 0 false (.slice none 0 0) ByteArray.empty) 42) := G1.far hne3
      have X2 : Hid (Bk (wb.setCell ⟨w.heap.size + 1 + 1, 2, none⟩ (.slice ra (k + 1) za)) (w.heap.size + 1 + 1) (pcc s c (.slice ra (k + 1) za) x) 42) := G2.two _
      have XB : Hid (Below w.heap.size w (wb.setCell ⟨w.heap.size + 1 + 1, 2, none⟩ (.slice ra (k + 1) za))) := GB.setCell hbs2 _
      have XS : Hid (w.heap.size + 3 ≤ (wb.setCell ⟨w.heap.size + 1 + 1, 2, none⟩ (.slice ra (k + 1) za)).heap.size) := by unfold Hid; simpa using GS
      have XO : Hid (OwnK 59 2 (wb.setCell ⟨w.heap.size + 1 + 1, 2, none⟩ (.slice ra (k + 1) za)) (w.heap.size + 3) (.slice ra (k + 1) za) (k + 1) (pc (hs.take (k + 1)))) := by
        rw [HST.out] at ow
        exact ow.far (by omega)
      clear G0 G1 G2 GB GS C3 Z3 S3 S4 ow gw S1 S2 O1 O2 OW NW ON F0 F1 F2 FB n0 n1 n2 nl nl2 SS S0 HB H0 H1 H2 HO c2
      go_wp2
      go_roundw
      case rel => exact ⟨k + 1, .slice ra (k + 1) za, by omega, by go_num, X0.out, X1.out, X2.out, XO.out, XB.out, XS.out⟩
      case measure => simp [RowKit.intOf]; omega
    · obtain rfl : k = n := by omega
      have e1 : ¬ (k : Int) < (k : Int) := by omega
      obtain ⟨ra, za, rfl, hcz, _, rr⟩ := HO.out.rd (by decide)
      have D0 := H2.out.cell 0
      have D1 := H2.out.cell 1
      have D2 := H2.out.cell 2
      have D3 := H2.out.cell 3
      have Z0 := H1.out.free 0
      have Z1 := H1.out.free 1
      have Z2 := H1.out.free 2
      have Z3 := H1.out.free 3
      have Y0 := H1.out.cell 0
      have Y1 := H1.out.cell 1
      have Y2 := H1.out.cell 2
      have Y3 := H1.out.cell 3
      simp at D0 D1 D2 D3 Y0 Y1 Y2 Y3
      have hz : w.heap.size + 1 < wr.heap.size := by omega
      clear rr
      go_wp2
      refine bodyPost_ret (v := pcv s c (.slice ra k za) x) (by simp [results, Tryz.results11, go_sem, Y0, Y1, Y2, Y3]) rfl ⟨ra, za, rfl, hcz, ?_, below_four HB.out (Nat.le_succ _) _ _ _ _⟩
      have own : OwnK 59 2 _ (w.heap.size + 3) (.slice ra k za) k (pc (hs.take k)) := (((HO.out.far (b := w.heap.size + 1) (j := 0) (x := .int .i64 s) (by omega)).far (b := w.heap.size + 1) (j := 1) (x := .bool c) (by omega)).far (b := w.heap.size + 1) (j := 2) (x := .slice ra k za) (by omega)).far (b := w.heap.size + 1) (j := 3) (x := .string x) (by omega)
      obtain ⟨a', c', e', _, _, rd⟩ := own.rd (by decide)
      simp only [Value.slice.injEq] at e'
      obtain ⟨rfl, _, _⟩ := e'
      rw [show hs.take k = hs by rw [← HN.out, List.take_length]] at rd
      exact rd
end Go.Proofs.YtoejpngdkcnnhaaGreat
