/-
  The walk of the document's Packets.
-/
import Derived.Test.YtockjijhckkicaaCBase
import Derived.Test.YtockjijhckkicaaStage
namespace Go.Proofs.Ytockjijhckkicaa
open Go.RowKit

theorem Try.info33 : (Try.prog.info? 33).map (fun i => (i.zero, i.size, i.bytes)) = some (some (.agg #[.int .i64 0, .int .i64 0, .int .i64 0, .string ⟨#[]⟩]), 4, 40) := by kernel_rfl
/-- The packets' cells. -/
def kc (s : Int) (x : ByteArray) (l : List (Int × Int)) : List Value := l.flatMap fun h => [.int .i64 s, .int .i64 h.1, .int .i64 h.2, .string x]
theorem kc_take (s : Int) (x : ByteArray) (l : List (Int × Int)) (k : Nat) (h : k < l.length) : kc s x (l.take k) ++ [.int .i64 s, .int .i64 (l.getD k (0, 0)).1, .int .i64 (l.getD k (0, 0)).2, .string x] = kc s x (l.take (k + 1)) := by
  have e : l.take (k + 1) = l.take k ++ [((l.getD k (0, 0)).1, (l.getD k (0, 0)).2)] := by
    rw [List.take_add_one, List.getElem?_eq_getElem h, List.getD_eq_getElem?_getD, List.getElem?_eq_getElem h]
    rfl
  rw [e]
  simp [kc]

set_option maxRecDepth 100000 in
set_option maxHeartbeats 16000000 in
theorem rpk_any (s : Int) (c : Bool) (a : Option Addr) (cap : Nat) (x : ByteArray) (hs : List (Int × Int)) (w : World) (hl : hs.length ≤ 5000) (hr : Rd w a (pc hs)) :
    Calls Try.prog 20 #[pcv s c (.slice a hs.length cap) x] w fun e w' => ∃ a' cap', e = .returned (.slice a' hs.length cap') ∧ hs.length ≤ cap' ∧ Rd w' a' (kc s x hs) ∧ Below w.heap.size w w' := by
  obtain ⟨i0, ki, hz0, hz1, hz2⟩ := info_parts Try.info33
  have HR : Hid (Rd w a (pc hs)) := hr
  have ST : Hid (∀ k, k < hs.length → kc s x (hs.take k) ++ [.int .i64 s, .int .i64 (hs.getD k (0, 0)).1, .int .i64 (hs.getD k (0, 0)).2, .string x] = kc s x (hs.take (k + 1))) := kc_take s x hs
  obtain ⟨n, hn⟩ : ∃ n, hs.length = n := ⟨_, rfl⟩
  have HN : Hid (hs.length = n) := hn
  rw [hn] at hl ST ⊢
  clear hr hn
  simp only [pcv, pcc] at *
  go_enter Try.func20, Try.ntmps20
  go_wp2_with fail
  have B0 : Hid (Bk (w.alloc (.cells (pcc s c (.slice a n cap) x) 60)) w.heap.size (pcc s c (.slice a n cap) x) 60 ∧ Below w.heap.size w (w.alloc (.cells (pcc s c (.slice a n cap) x) 60)) ∧ w.heap.size + 1 ≤ (w.alloc (.cells (pcc s c (.slice a n cap) x) 60)).heap.size) := ⟨Bk.new _ _ _, (Below.refl _ _).alloc (Nat.le_refl _) _, by simp⟩
  go_loopw [3, 4] (fun v i wr => ∃ (k : Nat), k ≤ n ∧ i = .int .i64 k ∧ Bk wr w.heap.size (pcc s c (.slice a n cap) x) 60 ∧ OwnK 33 4 wr (w.heap.size + 1) v k (kc s x (hs.take k)) ∧ Below w.heap.size w wr ∧ w.heap.size + 1 ≤ wr.heap.size) (fun _ i _ => n - (RowKit.intOf i).toNat)
  case atStart => exact ⟨0, Nat.zero_le _, rfl, B0.out.1, OwnK.nil _ _ _ _, B0.out.2.1, B0.out.2.2⟩
  case round =>
    obtain ⟨k, hk, rfl, h0, own, hb, hsz⟩ := hrel
    obtain ⟨v, rfl⟩ : ∃ v, v = u3 := ⟨_, rfl⟩
    have HB : Hid (Below w.heap.size w wr) := hb
    have H0 : Hid (Bk wr w.heap.size (pcc s c (.slice a n cap) x) 60) := h0
    have HO : Hid (OwnK 33 4 wr (w.heap.size + 1) v k (kc s x (hs.take k))) := own
    have c2 : wr.cell? ⟨w.heap.size, 2, none⟩ = some (.slice a n cap) := h0.cell 2
    clear h0 B0 hb own
    by_cases hlt : k < n
    · have e1 : (k : Int) < (n : Int) := by omega
      have e2 : (0 : Int) ≤ (k : Int) := by omega
      obtain ⟨g, o, rfl, hg, c3, c4⟩ := HR.out.pair (k := k) (by rw [HN.out]; exact hlt)
      have hst := ST.out k hlt
      generalize (hs.getD k (0, 0)).1 = p at *
      generalize (hs.getD k (0, 0)).2 = q at *
      have HST : Hid (kc s x (hs.take k) ++ [.int .i64 s, .int .i64 p, .int .i64 q, .string x] = kc s x (hs.take (k + 1))) := hst
      have SS : ∀ V, Bk V w.heap.size (pcc s c (.slice (some ⟨g, o, none⟩) n cap) x) 60 → Below w.heap.size w V → V.cell? ⟨w.heap.size, 0, none⟩ = some (.int .i64 s) ∧ V.cell? ⟨w.heap.size, 2, none⟩ = some (.slice (some ⟨g, o, none⟩) n cap) ∧ V.cell? ⟨w.heap.size, 3, none⟩ = some (.string x) ∧ V.cell? ⟨g, o + k * 2, none⟩ = some (.int .i64 p) ∧ V.cell? ⟨g, o + k * 2 + 1, none⟩ = some (.int .i64 q) :=
        fun V h hb => ⟨h.cell 0, h.cell 2, h.cell 3, (hb.cell (p := ⟨g, o + k * 2, none⟩) hg).trans c3, (hb.cell (p := ⟨g, o + k * 2 + 1, none⟩) hg).trans c4⟩
      have S0 : (fun V : World => V.cell? ⟨w.heap.size, 0, none⟩ = some (.int .i64 s) ∧ V.cell? ⟨w.heap.size, 2, none⟩ = some (.slice (some ⟨g, o, none⟩) n cap) ∧ V.cell? ⟨w.heap.size, 3, none⟩ = some (.string x) ∧ V.cell? ⟨g, o + k * 2, none⟩ = some (.int .i64 p) ∧ V.cell? ⟨g, o + k * 2 + 1, none⟩ = some (.int .i64 q)) wr.drew := SS wr.drew H0.out.drew HB.out.drew
      have A1 : Below wr.heap.size wr ((wr.alloc (.cells #[.int .i64 s, .int .i64 p, .int .i64 q, .string x] 33)).drew) := ((Below.refl _ _).alloc (Nat.le_refl _) _).drew
      have S2 : (fun V : World => V.cell? ⟨w.heap.size, 0, none⟩ = some (.int .i64 s) ∧ V.cell? ⟨w.heap.size, 2, none⟩ = some (.slice (some ⟨g, o, none⟩) n cap) ∧ V.cell? ⟨w.heap.size, 3, none⟩ = some (.string x) ∧ V.cell? ⟨g, o + k * 2, none⟩ = some (.int .i64 p) ∧ V.cell? ⟨g, o + k * 2 + 1, none⟩ = some (.int .i64 q)) ((wr.alloc (.cells #[.int .i64 s, .int .i64 p, .int .i64 q, .string x] 33)).drew) := SS ((wr.alloc (.cells #[.int .i64 s, .int .i64 p, .int .i64 q, .string x] 33)).drew) (H0.out.next A1) (HB.out.trans (A1.mono HB.out.size))
      have OW : OwnK 33 4 ((wr.alloc (.cells #[.int .i64 s, .int .i64 p, .int .i64 q, .string x] 33)).drew) (w.heap.size + 1) v k (kc s x (hs.take k)) := HO.out.below A1
      have NW : ∀ (j : Nat) (u : Value), ([.int .i64 s, .int .i64 p, .int .i64 q, .string x] : List Value)[j]? = some u → ((wr.alloc (.cells #[.int .i64 s, .int .i64 p, .int .i64 q, .string x] 33)).drew).cell? ⟨wr.heap.size, j, none⟩ = some u := fun j u hj => by
        have := cell_of (heap_alloc_new wr (.cells #[.int .i64 s, .int .i64 p, .int .i64 q, .string x] 33)) j
        exact this.trans (by simpa using hj)
      have ON : ∀ u ∈ ([.int .i64 s, .int .i64 p, .int .i64 q, .string x] : List Value), u.oneCell' = true := fun u hu => by
        simp at hu
        rcases hu with rfl | rfl | rfl | rfl <;> rfl
      have hk6 : k ≤ 1000000 := by omega
      have hbs : w.heap.size + 1 ≤ ((wr.alloc (.cells #[.int .i64 s, .int .i64 p, .int .i64 q, .string x] 33)).drew).heap.size := Nat.le_trans hsz A1.size
      have F0 := H0.out.next A1
      have FB := HB.out.trans (A1.mono HB.out.size)
      have n0 : v.ownBlock ≠ some w.heap.size := OW.ne F0 (by decide)
      have nl2 : ∀ r, v.ownBlock = some r → w.heap.size ≤ r := fun r hr => Nat.le_trans (by omega) (OW.lt hr).1
      clear c3 c4 hst A1 hg
      go_wp2_with fail
      refine wp_region_G (fun V : World => V.cell? ⟨w.heap.size, 0, none⟩ = some (.int .i64 s) ∧ V.cell? ⟨w.heap.size, 2, none⟩ = some (.slice (some ⟨g, o, none⟩) n cap) ∧ V.cell? ⟨w.heap.size, 3, none⟩ = some (.string x) ∧ V.cell? ⟨g, o + k * 2, none⟩ = some (.int .i64 p) ∧ V.cell? ⟨g, o + k * 2 + 1, none⟩ = some (.int .i64 q)) 20 (by kernel_rfl) ?_
      refine wpAnyG_take [20] (some 12) (i := 0) (v := ?v0) rfl rfl (by kernel_rfl) (by kernel_rfl) (by kernel_rfl) (by kernel_rfl) (fun _ _ _ h => h) (Or.inl ⟨by rfl, ?y0⟩) S0 ?r0
      case y0 => (intro V hSV; obtain ⟨d0, d1, d2, d3, d4⟩ := hSV; go_simp; try with_reducible rfl)
      simp only [Act.put, List.setIfInBounds_toArray, List.set_cons_zero, List.set_cons_succ]
      refine wpAnyG_take [20] (some 13) (i := 1) (v := ?v1) rfl rfl (by kernel_rfl) (by kernel_rfl) (by kernel_rfl) (by kernel_rfl) (fun _ _ _ h => h) (Or.inl ⟨by rfl, ?y1⟩) S0 ?r1
      case y1 => (intro V hSV; obtain ⟨d0, d1, d2, d3, d4⟩ := hSV; go_simp; try with_reducible rfl)
      simp only [Act.put, List.setIfInBounds_toArray, List.set_cons_zero, List.set_cons_succ]
      refine wpAnyG_take [20] (some 14) (i := 2) (v := ?v2) rfl rfl (by kernel_rfl) (by kernel_rfl) (by kernel_rfl) (by kernel_rfl) (fun _ _ _ h => h) (Or.inl ⟨by rfl, ?y2⟩) S0 ?r2
      case y2 => (intro V hSV; obtain ⟨d0, d1, d2, d3, d4⟩ := hSV; go_simp; try with_reducible rfl)
      simp only [Act.put, List.setIfInBounds_toArray, List.set_cons_zero, List.set_cons_succ]
      refine wpAnyG_take [20] (some 15) (i := 3) (v := ?v3) rfl rfl (by kernel_rfl) (by kernel_rfl) (by kernel_rfl) (by kernel_rfl) (fun _ _ _ h => h) (Or.inl ⟨by rfl, ?y3⟩) S0 ?r3
      case y3 => (intro V hSV; obtain ⟨d0, d1, d2, d3, d4⟩ := hSV; go_simp; try with_reducible rfl)
      simp only [Act.put, List.setIfInBounds_toArray, List.set_cons_zero, List.set_cons_succ]
      refine wpAnyG_take [20] (some 16) (i := 4) (v := ?v4) rfl rfl (by kernel_rfl) (by kernel_rfl) (by kernel_rfl) (by kernel_rfl) (fun _ _ _ h => h) (Or.inl ⟨by rfl, ?y4⟩) S0 ?r4
      case y4 => (intro V hSV; obtain ⟨d0, d1, d2, d3, d4⟩ := hSV; go_simp; try with_reducible rfl)
      simp only [Act.put, List.setIfInBounds_toArray, List.set_cons_zero, List.set_cons_succ]
      refine wpAnyG_take [20] (some 17) (i := 5) (v := ?v5) rfl rfl (by kernel_rfl) (by kernel_rfl) (by kernel_rfl) (by kernel_rfl) (fun _ _ _ h => h) (Or.inl ⟨by rfl, ?y5⟩) S0 ?r5
      case y5 => (intro V hSV; obtain ⟨d0, d1, d2, d3, d4⟩ := hSV; go_simp; try with_reducible rfl)
      simp only [Act.put, List.setIfInBounds_toArray, List.set_cons_zero, List.set_cons_succ]
      refine wpAnyG_take [20] (some 18) (i := 6) (v := ?v6) rfl rfl (by kernel_rfl) (by kernel_rfl) (by kernel_rfl) (by kernel_rfl) (fun _ _ _ h => h) (Or.inl ⟨by rfl, ?y6⟩) S0 ?r6
      case y6 => (intro V hSV; obtain ⟨d0, d1, d2, d3, d4⟩ := hSV; go_simp; try with_reducible rfl)
      simp only [Act.put, List.setIfInBounds_toArray, List.set_cons_zero, List.set_cons_succ]
      refine wpAnyG_take [20] (some 19) (i := 7) (v := ?v7) rfl rfl (by kernel_rfl) (by kernel_rfl) (by kernel_rfl) (by kernel_rfl) (fun _ _ _ h => h) (Or.inl ⟨by rfl, ?y7⟩) S0 ?r7
      case y7 => (intro V hSV; obtain ⟨d0, d1, d2, d3, d4⟩ := hSV; go_simp; try with_reducible rfl)
      simp only [Act.put, List.setIfInBounds_toArray, List.set_cons_zero, List.set_cons_succ]
      refine wpAnyG_take [20] (some 20) (i := 8) (v := ?v8) rfl rfl (by kernel_rfl) (by kernel_rfl) (by kernel_rfl) (by kernel_rfl) (fun _ _ _ h => h) (Or.inl ⟨by rfl, ?y8⟩) S0 ?r8
      case y8 => (intro V hSV; obtain ⟨d0, d1, d2, d3, d4⟩ := hSV; go_simp; try with_reducible rfl)
      simp only [Act.put, List.setIfInBounds_toArray, List.set_cons_zero, List.set_cons_succ]
      refine wpAnyG_take [20] (some 21) (i := 9) (v := ?v9) rfl rfl (by kernel_rfl) (by kernel_rfl) (by kernel_rfl) (by kernel_rfl) (fun _ _ _ h => h) (Or.inl ⟨by rfl, ?y9⟩) S0 ?r9
      case y9 => (intro V hSV; obtain ⟨d0, d1, d2, d3, d4⟩ := hSV; go_simp; try with_reducible rfl)
      simp only [Act.put, List.setIfInBounds_toArray, List.set_cons_zero, List.set_cons_succ]
      refine wpAnyG_take [20] (some 22) (i := 10) (v := ?v10) rfl rfl (by kernel_rfl) (by kernel_rfl) (by kernel_rfl) (by kernel_rfl) (fun _ _ _ h => h) (Or.inl ⟨by rfl, ?y10⟩) S0 ?r10
      case y10 => (intro V hSV; obtain ⟨d0, d1, d2, d3, d4⟩ := hSV; go_simp; try with_reducible rfl)
      simp only [Act.put, List.setIfInBounds_toArray, List.set_cons_zero, List.set_cons_succ]
      refine wpAnyG_take [20] (some 23) (i := 11) (v := ?v11) rfl rfl (by kernel_rfl) (by kernel_rfl) (by kernel_rfl) (by kernel_rfl) (fun _ _ _ h => h) (Or.inl ⟨by rfl, ?y11⟩) S0 ?r11
      case y11 => (intro V hSV; obtain ⟨d0, d1, d2, d3, d4⟩ := hSV; go_simp; try with_reducible rfl)
      simp only [Act.put, List.setIfInBounds_toArray, List.set_cons_zero, List.set_cons_succ]
      refine wpAnyG_take [20] (some 24) (i := 12) (v := ?v12) rfl rfl (by kernel_rfl) (by kernel_rfl) (by kernel_rfl) (by kernel_rfl) (fun _ _ _ h => h) (Or.inl ⟨by rfl, ?y12⟩) S0 ?r12
      case y12 => (intro V hSV; obtain ⟨d0, d1, d2, d3, d4⟩ := hSV; go_simp; try with_reducible rfl)
      simp only [Act.put, List.setIfInBounds_toArray, List.set_cons_zero, List.set_cons_succ]
      refine wpAnyG_take [20] (some 25) (i := 13) (v := ?v13) rfl rfl (by kernel_rfl) (by kernel_rfl) (by kernel_rfl) (by kernel_rfl) (fun _ _ _ h => h) (Or.inl ⟨by rfl, ?y13⟩) S0 ?r13
      case y13 => (intro V hSV; obtain ⟨d0, d1, d2, d3, d4⟩ := hSV; go_simp; try with_reducible rfl)
      simp only [Act.put, List.setIfInBounds_toArray, List.set_cons_zero, List.set_cons_succ]
      refine wpAnyG_take [20] (some 26) (i := 14) (v := ?v14) rfl rfl (by kernel_rfl) (by kernel_rfl) (by kernel_rfl) (by kernel_rfl) (fun _ _ _ h => h) (Or.inl ⟨by rfl, ?y14⟩) S0 ?r14
      case y14 => (intro V hSV; obtain ⟨d0, d1, d2, d3, d4⟩ := hSV; go_simp; try with_reducible rfl)
      simp only [Act.put, List.setIfInBounds_toArray, List.set_cons_zero, List.set_cons_succ]
      refine wpAnyG_take [20] (some 27) (i := 15) (v := ?v15) rfl rfl (by kernel_rfl) (by kernel_rfl) (by kernel_rfl) (by kernel_rfl) (fun _ _ _ h => h) (Or.inl ⟨by rfl, ?y15⟩) S0 ?r15
      case y15 => (intro V hSV; obtain ⟨d0, d1, d2, d3, d4⟩ := hSV; go_simp; try with_reducible rfl)
      simp only [Act.put, List.setIfInBounds_toArray, List.set_cons_zero, List.set_cons_succ]
      refine wpAnyG_take [20] (some 28) (i := 16) (v := ?v16) rfl rfl (by kernel_rfl) (by kernel_rfl) (by kernel_rfl) (by kernel_rfl) (fun _ _ _ h => h) (Or.inl ⟨by rfl, ?y16⟩) S0 ?r16
      case y16 => (intro V hSV; obtain ⟨d0, d1, d2, d3, d4⟩ := hSV; go_simp; try with_reducible rfl)
      simp only [Act.put, List.setIfInBounds_toArray, List.set_cons_zero, List.set_cons_succ]
      refine wpAnyG_take [20] (some 29) (i := 17) (v := ?v17) rfl rfl (by kernel_rfl) (by kernel_rfl) (by kernel_rfl) (by kernel_rfl) (fun _ _ _ h => h) (Or.inl ⟨by rfl, ?y17⟩) S0 ?r17
      case y17 => (intro V hSV; obtain ⟨d0, d1, d2, d3, d4⟩ := hSV; go_simp; try with_reducible rfl)
      simp only [Act.put, List.setIfInBounds_toArray, List.set_cons_zero, List.set_cons_succ]
      refine wpAnyG_one (i := 18) (by kernel_rfl) rfl (fun K hK => ?_)
      go_simp
      refine hK.out _ _ (Or.inr S2) ?_
      clear hK K
      refine wpAnyG_one (i := 19) (by kernel_rfl) rfl (fun K hK => ?_)
      refine step_app_k (by rfl) _ _ 25 33 i0 (.agg #[.int .i64 0, .int .i64 0, .int .i64 0, .string ⟨#[]⟩]) 4 40 (by rfl) Try.underlying25 ki hz0 hz1 hz2 rfl (by decide) (by decide) (w.heap.size + 1) _ v k (kc s x (hs.take k)) [.int .i64 s, .int .i64 p, .int .i64 q, .string x] wr.heap.size (by rfl) OW (by rfl) rfl NW ON hk6 hbs ?_
      intro v1' wb ow gw
      have G0 := F0.kept gw n0
      have GB := Below.grown FB gw (Nat.le_of_lt F0.lt) nl2
      have GS := Nat.le_trans hbs gw.size
      have S3 := SS wb G0 GB
      refine hK.out _ _ (Or.inr S3) ?_
      clear hK K
      simp only [Act.put, List.setIfInBounds_toArray]
      refine wpAnyG_one (i := 20) (by kernel_rfl) rfl (fun K hK => ?_)
      go_simp
      refine hK.out _ _ (Or.inl (by kernel_rfl)) ?_
      clear hK K
      refine wpAnyG_done (by kernel_rfl) ?_ _
      have X0 : Hid (Bk wb w.heap.size (pcc s c (.slice (some ⟨g, o, none⟩) n cap) x) 60) := G0
      have XB : Hid (Below w.heap.size w wb) := GB
      have XS : Hid (w.heap.size + 1 ≤ wb.heap.size) := GS
      have XO : Hid (OwnK 33 4 wb (w.heap.size + 1) v1' (k + 1) (kc s x (hs.take (k + 1)))) := by
        rw [HST.out] at ow
        exact ow
      clear G0 GB GS S3 ow gw S0 S2 OW NW ON F0 FB n0 nl2 SS HB H0 HO c2
      go_wp2
      go_roundw
      case rel => exact ⟨k + 1, by omega, by go_num, X0.out, XO.out, XB.out, XS.out⟩
      case measure => simp [RowKit.intOf]; omega
    · obtain rfl : k = n := by omega
      have e1 : ¬ (k : Int) < (k : Int) := by omega
      obtain ⟨ra, za, rfl, hcz, _, rr⟩ := HO.out.rd (by decide)
      rw [show hs.take k = hs by rw [← HN.out, List.take_length]] at rr
      have RR : Hid (Rd wr ra (kc s x hs)) := rr
      clear rr
      go_wp2
      go_ret
      exact ⟨ra, za, rfl, hcz, RR.out, HB.out⟩
end Go.Proofs.Ytockjijhckkicaa
