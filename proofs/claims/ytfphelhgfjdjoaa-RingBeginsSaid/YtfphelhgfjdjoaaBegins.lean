/-
  The walk of the law RingBegins.
-/
import Derived.Test.YtfphelhgfjdjoaaRel
namespace Go.Proofs.Ytfphelhgfjdjoaa
open Go.RowKit

theorem counts_is {w : World} {b pb m : Nat} {s : RingSt} (h : RingAt w b pb m s) (n : Nat) :
    Calls Try.prog 16 #[.pointer (some ⟨b, 0, none⟩)] (w.drewN n) fun e w' => e = .returned (.tuple #[.int .u32 s.i, .int .u32 s.o]) ∧ ∃ n', w' = (w.drewN n).drewN n' := ring_counts (h.drewN n)

theorem u32_of {x : Int} (h : (Lit.int .u32 x).wf = true) : 0 ≤ x ∧ x < 4294967296 := by
  have : 0 ≤ x ∧ x ≤ 4294967295 := by simpa [Lit.wf, IntKind.min, IntKind.max, IntKind.signed, IntKind.bits] using h
  omega

set_option maxRecDepth 100000 in
set_option maxHeartbeats 4000000 in
theorem ringBegins_any (w : World) (room bg : Int) (a : Option Addr) (n cap : Nat) (ops : List OpS) (hbg : 0 ≤ bg ∧ bg < 4294967296) (hn : n = ops.length) (hlc : n ≤ cap) (hcm : cap ≤ maxLen) (hr : OpsRd w w.heap.size a ops) :
    Calls Try.prog 8 #[.int .i64 room, .int .u32 bg, .slice a n cap] w fun e w' => e = .returned (.bool true) ∧ Below w.heap.size w w' := by
  obtain ⟨g, rfl⟩ := Int.eq_ofNat_of_zero_le hbg.1
  have V := lives_any w
  have E := fun w => early_any a n cap w hlc hcm
  have HO : Hid (OpsRd w w.heap.size a (ops.take 150)) := hr.take 150
  obtain ⟨N, hN⟩ : ∃ N, N = min n 150 := ⟨_, rfl⟩
  rw [← hN] at E
  have HN : Hid (N = (ops.take 150).length) := by show _ = _; rw [hN, hn, List.length_take]; omega
  have hN150 : N ≤ 150 := by omega
  have hg : g < 4294967296 := by omega
  clear hN hr hn hlc hcm hbg
  generalize ops.take 150 = os at *
  obtain ⟨B, hB⟩ : ∃ B, B = w.heap.size := ⟨_, rfl⟩
  rw [← hB] at V HO ⊢
  have HB : Hid (B = w.heap.size) := hB
  clear hB
  go_enter Try.func8, Try.ntmps8
  go_wp2_with fail
  go_at_call 10
  refine V.mono ?_
  rintro e w1 ⟨rfl, hb1⟩
  clear V
  go_wp2_with fail
  go_at_call 11
  refine (new_any _ g _ hg).mono ?_
  rintro e w2 ⟨rfl, hR, hb2⟩
  have l1 := hR.lt
  go_wp2_with fail
  go_at_call 11
  refine (new_any _ 0 _ (by omega)).mono ?_
  rintro e w3 ⟨rfl, hR2, hb3⟩
  have l2 := hR2.lt
  have z1 := hb1.size
  have z2 := hb2.size
  obtain ⟨b, hb⟩ : ∃ b, b = w1.heap.size := ⟨_, rfl⟩
  obtain ⟨b2, hbb2⟩ : ∃ b, b = w2.heap.size := ⟨_, rfl⟩
  have hI : BegInv w B b b2 g w3 := by
    rw [← hb] at hR hb2 l1
    rw [← hbb2] at hR2 hb3 l2
    have hz := HB.out
    refine ⟨b, b2, 0, 0, _, _, hR.below hb3 (by omega), hR2, ⟨by omega, by omega, by omega, by omega, by omega, by omega, by omega, by omega, by omega, by omega, by omega, by omega⟩, (hb1.trans (hb2.mono (by omega))).trans (hb3.mono (by omega)), ⟨rfl, rfl, rfl, rfl, ?_, ?_⟩⟩
    · show g = (0 + g) % 4294967296; omega
    · show g = (0 + g) % 4294967296; omega
  rw [← hb, ← hbb2]
  clear hR hb2 hb hb1 hR2 hb3 hbb2 l1 l2 z1 z2
  go_wp2_with (go_at_call 13; refine (E _).mono ?_; rintro e w3 ⟨rfl, rfl⟩)
  go_loopw [9] (fun i wr => ∃ k : Nat, k ≤ N ∧ i = .int .i64 k ∧ BegInv w B b b2 g wr) (fun i _ => N - (intOf i).toNat)
  case atStart => exact ⟨0, Nat.zero_le _, rfl, hI⟩
  case round =>
    clear hI E
    obtain ⟨k, hk, rfl, hI⟩ := hrel
    by_cases hlt : k < N
    · obtain ⟨pb, pb2, m, m2, s, t, hR, hR2, hA, hbel, hRel⟩ := hI
      obtain ⟨gg, off, rfl, hgg, ⟨ok, ov, ol⟩, hos, hC⟩ := (HO.out.below hbel) k (by have := HN.out; omega)
      obtain ⟨c0, c1, a', cap', c2, hl1, hl2, hrd⟩ := hC
      have HC : Hid (OpCells wr B gg (off + k * 3) ⟨ok, ov, ol⟩) := ⟨c0, c1, a', cap', c2, hl1, hl2, hrd⟩
      have hl1 : ol.length ≤ cap' := hl1
      have hrd : Rd wr a' ol (fun g => g < B) := hrd
      obtain ⟨q1, q2, q3, q4⟩ := rel_step hRel (ok % 8) ov ol
      obtain ⟨A1, A2, A3, A4, A5, A6, A7, A8, A9, A10, A11, A12⟩ := hA
      have hlen : (doStep s (ok % 8) ov ol).l.length ≤ 4096 := by
        have := doStep_len s (ok % 8) ov ol; have := hR.1.hcap; omega
      obtain ⟨nn, hnn⟩ : ∃ x, (doStep s (ok % 8) ov ol).n = x := ⟨_, rfl⟩
      obtain ⟨ee, hee⟩ : ∃ x, (doStep s (ok % 8) ov ol).e = x := ⟨_, rfl⟩
      obtain ⟨ll, hll⟩ : ∃ x, (doStep s (ok % 8) ov ol).l = x := ⟨_, rfl⟩
      obtain ⟨s', hs'⟩ : ∃ x, (doStep s (ok % 8) ov ol).s = x := ⟨_, rfl⟩
      obtain ⟨t', ht'⟩ : ∃ x, (doStep t (ok % 8) ov ol).s = x := ⟨_, rfl⟩
      rw [hs', ht'] at q4
      rw [hll] at hlen q3
      rw [hnn] at q1
      rw [hee] at q2
      obtain ⟨L, hL⟩ : ∃ L, ll.length = L := ⟨_, rfl⟩
      obtain ⟨M, hM⟩ : ∃ M, ol.length = M := ⟨_, rfl⟩
      have S1 := step_is hR ok ov a' M cap' ol hM (by omega) hl2 hrd A1 A3 nn ee ll s' hnn hee hll hs' L hL
      have HQ : Hid ((doStep t (ok % 8) ov ol).n = nn ∧ (doStep t (ok % 8) ov ol).e = ee ∧ (doStep t (ok % 8) ov ol).l = ll ∧ (doStep t (ok % 8) ov ol).s = t' ∧ ll.length = L ∧ ol.length = M ∧ L ≤ 4096 ∧ Rel g s' t') := ⟨q1.symm, q2.symm, q3.symm, ht', hL, hM, by omega, q4⟩
      have HRD : Hid (M ≤ cap' ∧ cap' ≤ maxLen ∧ Rd wr a' ol (fun g => g < B)) := ⟨by omega, hl2, hrd⟩
      have HR2 : Hid (RingAt wr b2 pb2 m2 t) := hR2
      have HBEL : Hid (Below B w wr) := hbel
      clear q1 q2 q3 q4 hnn hee hll hs' ht' hlen hrd hR2 hR hl1 hl2 hbel hRel hos
      rw [hM] at c2
      clear hL hM
      go_wp2_with fail
      go_at_call 14
      refine S1.mono ?_
      rintro e w1 ⟨a1, cap1, rfl, hRd1, pb', m', hR1, hF1, hP1⟩
      have hb1 : Below B wr w1 := hF1.below A1 A3 (by omega)
      obtain ⟨d0, d1, a9, cap9, d2, _⟩ := HC.out
      have x0 := cells_below hb1 hgg _ c0
      have x1 := cells_below hb1 hgg _ c1
      have x2 := cells_below hb1 hgg _ c2
      have S2 := step_is (HR2.out.frame hF1 (Ne.symm A5) (Ne.symm A7) (Ne.symm A6) (Ne.symm A8)) ok ov a' M cap' ol HQ.out.2.2.2.2.2.1 HRD.out.1 HRD.out.2.1 (HRD.out.2.2.keep hb1.size (fun g hg _ => hb1.block g hg)) A2 A4 nn ee ll t' HQ.out.1 HQ.out.2.1 HQ.out.2.2.1 HQ.out.2.2.2.1 L HQ.out.2.2.2.2.1
      clear S1 d0 d1 d2 c0 c1 c2
      go_wp2_with fail
      go_at_call 14
      refine S2.mono ?_
      rintro e w2 ⟨a2, cap2, rfl, hRd2, pb2', m2', hR22, hF2, hP2⟩
      have hb2 : Below B w1 w2 := hF2.below A2 A4 (by have := hb1.size; omega)
      have hz1 := hF1.size
      have hz2 := hF2.size
      have hR1' : RingAt w2 b pb' m' s' := hR1.frame hF2 A5 (by omega) (by omega) (by omega)
      have hRd1' := hRd1.keep hF2.size (fun g hg1 hg2 => hF2.block g hg2 (by omega) (by omega))
      have hl0 := hR1.lt
      have hl1 := hR1'.lt
      have hl2 := hR22.lt
      have hRel := HQ.out.2.2.2.2.2.2.2
      have HI : Hid (∀ n, BegInv w B b b2 g (w2.drewN n)) := fun n => ⟨pb', pb2', m', m2', s', t', hR1'.drewN n, hR22.drewN n,
        ⟨A1, A2, by omega, by omega, A5, by omega, by omega, by omega, hl1.1, hl2.1, hl1.2, hl2.2⟩, below_drewN ((HBEL.out.trans hb1).trans hb2) n, hRel⟩
      have K1 := fun n => counts_is hR1' n
      have K2 := fun n => counts_is hR22 n
      have K10 : Calls Try.prog 16 #[.pointer (some ⟨b, 0, none⟩)] w2 fun e w' => e = .returned (.tuple #[.int .u32 s'.i, .int .u32 s'.o]) ∧ ∃ n', w' = w2.drewN n' := K1 0
      have hxl : (s'.xs.length : Int) ≤ 4096 := by have := hR1'.1.hcap; omega
      have L1 := fun n => len_is hR1' (s'.xs.length : Int) rfl n
      have L2 := fun n => len_is hR22 (s'.xs.length : Int) (by rw [hRel.xs]) n
      have F1 := fun n => room_is hR1' s'.free rfl n
      have F2 := fun n => room_is hR22 s'.free hRel.free.symm n
      have C1 := fun n cc1 cc2 => same_is' (w2.drewN n) a1 a2 L L cc1 cc2 ll ll _ _ hRd1' hRd2 HQ.out.2.2.2.2.1 HQ.out.2.2.2.2.1 (by have := HQ.out.2.2.2.2.2.2.1; omega) (by have := HQ.out.2.2.2.2.2.2.1; omega) true (by simp)
      have e1 : ((s'.i : Int) - s'.o) % 4294967296 = s'.xs.length := RingAt.len_eq hR1'.1
      have e2 : ((s'.i : Int) - g) % 4294967296 = t'.i := by have := hRel.i; have := hR22.1.hi; omega
      have e3 : ((s'.o : Int) - g) % 4294967296 = t'.o := by have := hRel.o; have := hR22.1.ho; omega
      have hxl0 : 0 ≤ (s'.xs.length : Int) := by omega
      clear hRel hl0 hl1 hl2 hRd1' hRd2 hR1' hR22 hb2 hz1 hz2 hRd1 hR1 hF1 hF2 hP1 hP2 hb1 S2 x0 x1 x2
      generalize s'.free = fr at *
      generalize (s'.xs.length : Int) = xl at *
      generalize (s'.i : Int) = si at *
      generalize (s'.o : Int) = so at *
      generalize (t'.i : Int) = ti at *
      generalize (t'.o : Int) = to' at *
      go_wp2_with (first
        | (go_at_call 16; (with_reducible refine K10.mono ?_); rintro e w' ⟨rfl, n1, rfl⟩)
        | (go_at_call 16; (with_reducible refine (K2 _).mono ?_); rintro e w' ⟨rfl, n1, rfl⟩)
        | (go_at_call 17; (with_reducible refine (C1 _ _ _).mono ?_); rintro e w' ⟨rfl, n1, rfl⟩)
        | (go_at_call 18; (with_reducible refine (L1 _).mono ?_); rintro e w' ⟨rfl, n1, rfl⟩)
        | (go_at_call 18; (with_reducible refine (L2 _).mono ?_); rintro e w' ⟨rfl, n1, rfl⟩)
        | (go_at_call 19; (with_reducible refine (F1 _).mono ?_); rintro e w' ⟨rfl, n1, rfl⟩)
        | (go_at_call 19; (with_reducible refine (F2 _).mono ?_); rintro e w' ⟨rfl, n1, rfl⟩))
      go_roundw
      case rel => exact ⟨k + 1, by omega, by go_num, HI.out _⟩
      case measure => simp [intOf]; omega
    · go_wp2
      go_ret
      exact ⟨rfl, by obtain ⟨_, _, _, _, _, _, _, _, _, h, _⟩ := hI; exact h⟩
end Go.Proofs.Ytfphelhgfjdjoaa
