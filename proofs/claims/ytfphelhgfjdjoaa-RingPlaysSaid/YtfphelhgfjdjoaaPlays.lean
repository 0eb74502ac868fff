/-
  The walk of the law RingPlays.
-/
import Derived.Test.YtfphelhgfjdjoaaRefDo
import Derived.Test.YtfphelhgfjdjoaaFirst
namespace Go.Proofs.Ytfphelhgfjdjoaa
open Go.RowKit

def PlaInv (W : World) (B b c : Nat) (wr : World) : Prop :=
  ∃ pb m s g lv, RingAt wr b pb m s ∧ RefAt wr c g s lv ∧ (B ≤ b ∧ B ≤ c ∧ B ≤ pb ∧ B ≤ g ∧ b ≠ c ∧ pb ≠ c ∧ b ≠ g ∧ pb ≠ g) ∧ Below B W wr

theorem u32_of' {x : Int} (h : (Lit.int .u32 x).wf = true) : 0 ≤ x ∧ x < 4294967296 := by
  have : 0 ≤ x ∧ x ≤ 4294967295 := by simpa [Lit.wf, IntKind.min, IntKind.max, IntKind.signed, IntKind.bits] using h
  omega

set_option maxRecDepth 100000 in
set_option maxHeartbeats 4000000 in
theorem ringPlays_any (w : World) (room bg : Int) (a : Option Addr) (n cap : Nat) (ops : List OpS) (hbg : 0 ≤ bg ∧ bg < 4294967296) (hn : n = ops.length) (hlc : n ≤ cap) (hcm : cap ≤ maxLen) (hr : OpsRd w w.heap.size a ops) :
    Calls Try.prog 3 #[.int .i64 room, .int .u32 bg, .slice a n cap] w fun e w' => e = .returned (.bool true) ∧ Below w.heap.size w w' := by
  obtain ⟨g0, rfl⟩ := Int.eq_ofNat_of_zero_le hbg.1
  have V := lives_any w
  have E := fun w => early_any a n cap w hlc hcm
  have HO : Hid (OpsRd w w.heap.size a (ops.take 150)) := hr.take 150
  obtain ⟨N, hN⟩ : ∃ N, N = min n 150 := ⟨_, rfl⟩
  rw [← hN] at E
  have HN : Hid (N = (ops.take 150).length) := by show _ = _; rw [hN, hn, List.length_take]; omega
  have hN150 : N ≤ 150 := by omega
  have hg : g0 < 4294967296 := by omega
  clear hN hr hn hlc hcm hbg
  generalize ops.take 150 = os at *
  obtain ⟨B, hB⟩ : ∃ B, B = w.heap.size := ⟨_, rfl⟩
  rw [← hB] at V HO ⊢
  have HB : Hid (B = w.heap.size) := hB
  clear hB
  go_enter Try.func3, Try.ntmps3
  go_wp2_with fail
  go_at_call 10
  refine V.mono ?_
  rintro e w1 ⟨rfl, hb1⟩
  clear V
  go_wp2_with fail
  go_at_call 11
  refine (new_any _ g0 _ hg).mono ?_
  rintro e w2 ⟨rfl, hR, hb2⟩
  have l1 := hR.lt
  go_wp2_with fail
  go_at_call 12
  refine (ref_new _ g0 _ hg).mono ?_
  rintro e w3 ⟨rfl, hR2, hb3⟩
  have l2 := hR2.lt
  have z1 := hb1.size
  have z2 := hb2.size
  obtain ⟨b, hb⟩ : ∃ b, b = w1.heap.size := ⟨_, rfl⟩
  obtain ⟨c, hcc⟩ : ∃ b, b = w2.heap.size := ⟨_, rfl⟩
  have hI : PlaInv w B b c w3 := by
    rw [← hb] at hR hb2 l1
    rw [← hcc] at hR2 hb3 l2
    have hz := HB.out
    exact ⟨b, 0, _, c, 0, hR.below hb3 (by omega), hR2, ⟨by omega, by omega, by omega, by omega, by omega, by omega, by omega, by omega⟩, (hb1.trans (hb2.mono (by omega))).trans (hb3.mono (by omega))⟩
  rw [← hb, ← hcc]
  clear hR hb2 hb hb1 hR2 hb3 hcc l1 l2 z1 z2
  go_wp2_with (go_at_call 13; refine (E _).mono ?_; rintro e w3 ⟨rfl, rfl⟩)
  go_loopw [9] (fun i wr => ∃ k : Nat, k ≤ N ∧ i = .int .i64 k ∧ PlaInv w B b c wr) (fun i _ => N - (intOf i).toNat)
  case atStart => exact ⟨0, Nat.zero_le _, rfl, hI⟩
  case round =>
    clear hI E
    obtain ⟨k, hk, rfl, hI⟩ := hrel
    by_cases hlt : k < N
    · obtain ⟨pb, m, s, g, lv, hR, hT, ⟨A1, A2, A3, A4, A5, A6, A7, A8⟩, hbel⟩ := hI
      obtain ⟨gg, off, rfl, hgg, ⟨ok, ov, ol⟩, hos, hC⟩ := (HO.out.below hbel) k (by have := HN.out; omega)
      obtain ⟨c0, c1, a', cap', c2, hl1, hl2, hrd⟩ := hC
      have HC : Hid (OpCells wr B gg (off + k * 3) ⟨ok, ov, ol⟩) := ⟨c0, c1, a', cap', c2, hl1, hl2, hrd⟩
      have hl1 : ol.length ≤ cap' := hl1
      have hrd : Rd wr a' ol (fun g => g < B) := hrd
      have hlen : (doStep s (ok % 8) ov ol).l.length ≤ 4096 := by
        have := doStep_len s (ok % 8) ov ol; have := hR.1.hcap; omega
      obtain ⟨nn, hnn⟩ : ∃ x, (doStep s (ok % 8) ov ol).n = x := ⟨_, rfl⟩
      obtain ⟨ee, hee⟩ : ∃ x, (doStep s (ok % 8) ov ol).e = x := ⟨_, rfl⟩
      obtain ⟨ll, hll⟩ : ∃ x, (doStep s (ok % 8) ov ol).l = x := ⟨_, rfl⟩
      obtain ⟨s', hs'⟩ : ∃ x, (doStep s (ok % 8) ov ol).s = x := ⟨_, rfl⟩
      rw [hll] at hlen
      obtain ⟨L, hL⟩ : ∃ L, ll.length = L := ⟨_, rfl⟩
      obtain ⟨M, hM⟩ : ∃ M, ol.length = M := ⟨_, rfl⟩
      have S1 := step_is hR ok ov a' M cap' ol hM (by omega) hl2 hrd A1 A3 nn ee ll s' hnn hee hll hs' L hL
      have HQ : Hid ((doStep s (ok % 8) ov ol).n = nn ∧ (doStep s (ok % 8) ov ol).e = ee ∧ (doStep s (ok % 8) ov ol).l = ll ∧ (doStep s (ok % 8) ov ol).s = s' ∧ ll.length = L ∧ ol.length = M ∧ L ≤ 4096) := ⟨hnn, hee, hll, hs', hL, hM, by omega⟩
      have HRD : Hid (M ≤ cap' ∧ cap' ≤ maxLen ∧ Rd wr a' ol (fun g => g < B)) := ⟨by omega, hl2, hrd⟩
      have HT : Hid (RefAt wr c g s lv) := hT
      have HBEL : Hid (Below B w wr) := hbel
      have q1 := hR.lt
      have q2 := hT.lt
      have hwz : B ≤ wr.heap.size := by have := hbel.size; have := HB.out; omega
      clear hnn hee hll hs' hlen hrd hT hR hl1 hl2 hbel hos
      rw [hM] at c2
      clear hL hM
      go_wp2_with fail
      go_at_call 14
      refine S1.mono ?_
      rintro e w1 ⟨a1, cap1, rfl, hRd1, pb', m', hR1, hF1, hP1⟩
      have hb1 : Below B wr w1 := hF1.below A1 A3 hwz
      have hz1 := hF1.size
      have hl1 := hR1.lt
      obtain ⟨d0, d1, a9, cap9, d2, _⟩ := HC.out
      have x0 := cells_below hb1 hgg _ c0
      have x1 := cells_below hb1 hgg _ c1
      have x2 := cells_below hb1 hgg _ c2
      have hT1 : RefAt w1 c g s lv := HT.out.keep hz1 (hF1.block c q2.1 (Ne.symm A5) (Ne.symm A6)) (hF1.block g q2.2 (Ne.symm A7) (Ne.symm A8))
      have S2 := stepRef_is hT1 ok ov a' M cap' ol HQ.out.2.2.2.2.2.1 HRD.out.1 HRD.out.2.1 (HRD.out.2.2.keep hb1.size (fun g hg _ => hb1.block g hg)) A2 nn ee ll s' HQ.out.1 HQ.out.2.1 HQ.out.2.2.1 HQ.out.2.2.2.1 L HQ.out.2.2.2.2.1
      have hpbs : B ≤ pb' ∧ pb' ≠ c ∧ pb' ≠ g := by omega
      clear S1 d0 d1 d2 c0 c1 c2 hT1
      go_wp2_with fail
      go_at_call 15
      refine S2.mono ?_
      rintro e w2 ⟨a2, cap2, rfl, hRd2, g2, lv2, hT2, hF2, hP2⟩
      have hz2 := hF2.size
      have hb2 : Below B w1 w2 := hF2.below A2 A2 (by omega)
      have hR1' : RingAt w2 b pb' m' s' := hR1.frame hF2 A5 A5 hpbs.2.1 hpbs.2.1
      have hRd1' := hRd1.keep hF2.size (fun q hg1 hg2 => hF2.block q hg2 (by omega) (by omega))
      have hg2x : B ≤ g2 ∧ b ≠ g2 ∧ pb' ≠ g2 := by omega
      have HI : Hid (∀ wz, Below w2.heap.size w2 wz → PlaInv w B b c wz) := fun wz hz => ⟨pb', m', s', g2, lv2, hR1'.below hz (Nat.le_refl _), hT2.keep hz.size (hz.block c hT2.lt.1) (hz.block g2 hT2.lt.2),
        ⟨A1, A2, hpbs.1, hg2x.1, A5, hpbs.2.1, hg2x.2.1, hg2x.2.2⟩, ((HBEL.out.trans hb1).trans hb2).trans (hz.mono (by omega))⟩
      have K10 : Calls Try.prog 16 #[.pointer (some ⟨b, 0, none⟩)] w2 fun e w' => e = .returned (.tuple #[.int .u32 s'.i, .int .u32 s'.o]) ∧ ∃ n', w' = w2.drewN n' := ring_counts hR1'
      have hxl : s'.xs.length ≤ 4096 := by have := hR1'.1.hcap; omega
      obtain ⟨X, hX⟩ : ∃ X, s'.xs.length = X := ⟨_, rfl⟩
      have L1 := fun n => len_is hR1' (X : Int) (by rw [hX]) n
      have F1 := fun n => room_is hR1' s'.free rfl n
      have F2 := fun n => ref_room (hT2.drewN n)
      have AA := fun n => all_in (W := w2.drewN n) hR1' ⟨rfl, rfl, rfl, rfl⟩ s'.xs X rfl hX
      have h1m : L ≤ 1000000 := by have := HQ.out.2.2.2.2.2.2; omega
      have h2m : X ≤ 1000000 := by omega
      have C1 := fun n cc1 cc2 => same_is' (w2.drewN n) a1 a2 L L cc1 cc2 ll ll _ _ hRd1' hRd2 HQ.out.2.2.2.2.1 HQ.out.2.2.2.2.1 h1m h1m true (by simp)
      obtain ⟨_, _, _, aL, capL, tL, htL, _, _, _, rL⟩ := id hT2
      have y1 : w2.cell? ⟨c, 1, none⟩ = some (.slice aL X capL) := by rw [cell_of htL, ← hX]; rfl
      have y4 : w2.cell? ⟨c, 4, none⟩ = some (.int .u32 s'.i) := by rw [cell_of htL]; rfl
      have y5 : w2.cell? ⟨c, 5, none⟩ = some (.int .u32 s'.o) := by rw [cell_of htL]; rfl
      have hcw := hT2.lt.1
      have RL : ∀ wz, Below w2.heap.size w2 wz → Rd wz aL s'.xs (fun x => x = g2 ∧ x ≠ c) := fun wz hz => rL.keep hz.size (fun q _ hq => hz.block q hq)
      have HRL := Lib.hid RL
      have HX : Hid (s'.xs.length = X) := hX
      clear hl1 hRd1' hRd2 hR1' hb2 hz1 hz2 hRd1 hR1 hF1 hF2 hP1 hP2 hb1 S2 x0 x1 x2 hT2 htL rL RL hX
      generalize s'.free = fr at *
      generalize (s'.i : Int) = si at *
      generalize (s'.o : Int) = so at *
      go_wp2_with (go_at_call 16; (with_reducible refine K10.mono ?_); rintro e w' ⟨rfl, n1, rfl⟩)
      go_region_held3 (fun w' => w'.cell? ⟨c, 1, none⟩ = some (.slice aL X capL) ∧ w'.cell? ⟨c, 4, none⟩ = some (.int .u32 si) ∧ w'.cell? ⟨c, 5, none⟩ = some (.int .u32 so))
        (first | go_keep | exact ⟨cells_below hBz hcw _ y1, cells_below hBz hcw _ y4, cells_below hBz hcw _ y5⟩)
        (first
          | (go_at_call 17; (with_reducible refine (C1 _ _ _).mono ?_); rintro e w' ⟨rfl, n2, rfl⟩)
          | (go_at_call 18; (with_reducible refine (L1 _).mono ?_); rintro e w' ⟨rfl, n3, rfl⟩)
          | (go_at_call 19; (with_reducible refine (F1 _).mono ?_); rintro e w' ⟨rfl, n4, rfl⟩)
          | (go_at_call 20; (with_reducible refine (F2 _).mono ?_); rintro e w' ⟨rfl, n5, rfl⟩)
          | (go_at_call 21; (with_reducible refine (AA _).mono ?_); rintro e w5 ⟨a5, cap5, rfl, q5, q6, hRd5, hBz⟩)
          | (go_at_call 17; (with_reducible refine (same_is' _ _ _ _ _ _ _ s'.xs s'.xs _ _ hRd5 (HRL.out _ hBz) HX.out HX.out h2m h2m true (decide_eq_true rfl)).mono ?_); rintro e w' ⟨rfl, n6, rfl⟩))
      go_wp2
      go_roundw
      case rel => exact ⟨k + 1, by omega, by go_num, HI.out _ (below_drewN hBz _)⟩
      case measure => simp [intOf]; omega
    · go_wp2
      go_ret
      exact ⟨rfl, by obtain ⟨_, _, _, _, _, _, _, _, h⟩ := hI; exact h⟩
end Go.Proofs.Ytfphelhgfjdjoaa
