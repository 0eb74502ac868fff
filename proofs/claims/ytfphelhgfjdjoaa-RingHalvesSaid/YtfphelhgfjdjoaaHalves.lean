/-
  The walk of the law RingHalves.
-/
import Derived.Test.YtfphelhgfjdjoaaFirst
namespace Go.Proofs.Ytfphelhgfjdjoaa
open Go.RowKit

section
variable {w : World} {b pb m : Nat} {s : RingSt}
theorem push_laid (h : RingAt w b pb m s) (hla : s.laid = true) (v : Int) :
    Calls Try.prog 23 #[.pointer (some ⟨b, 0, none⟩), .int .i64 v] w fun e w' => e = .returned (.int .i64 13) ∧ w = w' := by
  have K := lay_laid h hla v
  clear h hla
  go_enter Try.func23, Try.ntmps23
  go_wp2_with (go_at_call 27; refine K.mono ?_; rintro e w' ⟨rfl, rfl⟩)
  go_ret
  exact ⟨rfl, rfl⟩
theorem push_full (h : RingAt w b pb m s) (hla : s.laid = false) (hf : s.free = 0) (v : Int) :
    Calls Try.prog 23 #[.pointer (some ⟨b, 0, none⟩), .int .i64 v] w fun e w' => e = .returned (.int .i64 7) ∧ ∃ n, w' = w.drewN n := by
  have K := lay_full h hla hf v
  clear h hla hf
  go_enter Try.func23, Try.ntmps23
  go_wp2_with (go_at_call 27; refine K.mono ?_; rintro e w' ⟨rfl, n, rfl⟩)
  go_ret
  exact ⟨rfl, _, rfl⟩
end

theorem freeS_laid (s : RingSt) : (freeS s).laid = s.laid := by unfold freeS; split <;> rfl

def HalInv (W : World) (B b b2 : Nat) (wr : World) : Prop :=
  ∃ pb pb2 m m2 s t, RingAt wr b pb m s ∧ RingAt wr b2 pb2 m2 t ∧ Apart wr B b b2 pb pb2 ∧ Below B W wr ∧ Rel 0 s t ∧ s.laid = false

set_option maxRecDepth 100000 in
set_option maxHeartbeats 4000000 in
theorem ringHalves_any (w : World) (room : Int) (a : Option Addr) (n cap : Nat) (l : List Int) (v : Int) (hn : n = l.length) (hlc : n ≤ cap) (hcm : cap ≤ maxLen) (hr : Rd w a l (fun _ => True)) :
    Calls Try.prog 5 #[.int .i64 room, .slice a n cap, .int .i64 v] w fun e w' => e = .returned (.bool true) ∧ Below w.heap.size w w' := by
  unfold maxLen at hcm
  have V := lives_any w
  have hr' : Rd w a l (fun g => g < w.heap.size) := hr.mono fun g h _ => h
  have HN : Hid (n = l.length) := hn
  have hn63 : n ≤ 9223372036854775807 := by omega
  obtain ⟨B, hB⟩ : ∃ B, B = w.heap.size := ⟨_, rfl⟩
  rw [← hB] at V hr' ⊢
  have HB : Hid (B = w.heap.size) := hB
  have HR : Hid (Rd w a l (fun g => g < B)) := hr'
  clear hB hr hr' hn hlc hcm
  go_enter Try.func5, Try.ntmps5
  go_wp2_with fail
  go_at_call 10
  refine V.mono ?_
  rintro e w1 ⟨rfl, hb1⟩
  clear V
  go_wp2_with fail
  have hrm : 2 ≤ wrap64 (2 + wrap64 ((IntKind.u64.wrap room).tmod 20)) ∧ wrap64 (2 + wrap64 ((IntKind.u64.wrap room).tmod 20)) ≤ 21 := by
    have := urange room 20 (by omega) (by omega)
    generalize wrap64 ((IntKind.u64.wrap room).tmod 20) = z at *
    unfold wrap64; omega
  generalize wrap64 (2 + wrap64 ((IntKind.u64.wrap room).tmod 20)) = rm at *
  go_at_call 11
  refine (new_any _ 5 _ (by omega)).mono ?_
  rintro e w2 ⟨rfl, hR, hb2⟩
  have l1 := hR.lt
  go_wp2_with fail
  go_at_call 11
  refine (new_any _ 5 _ (by omega)).mono ?_
  rintro e w3 ⟨rfl, hR2, hb3⟩
  have l2 := hR2.lt
  have z1 := hb1.size
  have z2 := hb2.size
  obtain ⟨b, hb⟩ : ∃ b, b = w1.heap.size := ⟨_, rfl⟩
  obtain ⟨b2, hbb2⟩ : ∃ b, b = w2.heap.size := ⟨_, rfl⟩
  have hI : HalInv w B b b2 w3 := by
    rw [← hb] at hR hb2 l1
    rw [← hbb2] at hR2 hb3 l2
    have hz := HB.out
    exact ⟨b, b2, 0, 0, _, _, hR.below hb3 (by omega), hR2, ⟨by omega, by omega, by omega, by omega, by omega, by omega, by omega, by omega, by omega, by omega, by omega, by omega⟩, (hb1.trans (hb2.mono (by omega))).trans (hb3.mono (by omega)), ⟨rfl, rfl, rfl, rfl, rfl, rfl⟩, rfl⟩
  rw [← hb, ← hbb2]
  clear hR hb2 hb hb1 hR2 hb3 hbb2 l1 l2 z1 z2
  go_wp2_with fail
  go_loopw [9] (fun i wr => ∃ k : Nat, k ≤ n ∧ k ≤ 40 ∧ i = .int .i64 k ∧ HalInv w B b b2 wr) (fun i _ => 40 - (intOf i).toNat)
  case atStart => exact ⟨0, Nat.zero_le _, Nat.zero_le _, rfl, hI⟩
  case round =>
    clear hI
    obtain ⟨k, hk, hk40, rfl, hI⟩ := hrel
    by_cases hlt : k < n
    · by_cases hlt2 : k < 40
      · obtain ⟨pb, pb2, m, m2, s, t, hR, hT, hA, hbel, hRel, hla⟩ := hI
        obtain ⟨A1, A2, A3, A4, A5, A6, A7, A8, A9, A10, A11, A12⟩ := hA
        obtain ⟨g, off, rfl, hgB, hgs, hc0⟩ := HR.out k (by have := HN.out; omega)
        have hc : wr.cell? ⟨g, off + k, none⟩ = some (.int .i64 (l.getD k 0)) := cells_below hbel hgB _ hc0
        obtain ⟨x, hx⟩ : ∃ x, x = l.getD k 0 := ⟨_, rfl⟩
        rw [← hx] at hc
        have HC : Hid (wr.cell? ⟨g, off + k, none⟩ = some (.int .i64 x)) := hc
        have HBEL : Hid (Below B w wr) := hbel
        clear hx hc0 hbel
        cases hd : (x.tmod 3 == 0)
        · by_cases h0 : layE s = 0
          · have P1 := push_is hR x 0 (s.lay x).published h0 (by rw [pushS, if_pos h0])
            have HREL : Hid (Rel 0 s t) := hRel
            have HT : Hid (RingAt wr b2 pb2 m2 t) := hT
            have ht0 : layE t = 0 := by rw [← hRel.layE]; exact h0
            have HT0 : Hid (layE t = 0) := ht0
            have htl : t.xs.length ≤ 4096 := by have := hT.1.hcap; omega
            obtain ⟨T, hTT⟩ : ∃ T, t.xs.length = T := ⟨_, rfl⟩
            rw [hTT] at htl
            have HTT : Hid (t.xs.length = T) := hTT
            clear hR hT hRel hla ht0 hTT h0
            go_wp2_with fail
            go_at_call 23
            refine P1.mono ?_
            rintro e w1 ⟨rfl, pb', m', hR1, hF1, hP1⟩
            have hz1 := hF1.size
            have hT1 := HT.out.frame hF1 (Ne.symm A5) (Ne.symm A7) (Ne.symm A6) (Ne.symm A8)
            have hpb'1 : B ≤ pb' ∧ pb' ≠ b2 ∧ pb' ≠ pb2 := by omega
            have Lx := ring_lay hT1 x
            rw [HT0.out, show layS t x = t.lay x by simp [layS, HT0.out]] at Lx
            have hb1 : Below B wr w1 := hF1.below A1 A3 (by omega)
            have hc1 := cells_below hb1 hgB _ HC.out
            have HR1 : Hid (RingAt w1 b pb' m' (s.lay x).published) := hR1
            have HB1 : Hid (Below B w w1) := HBEL.out.trans hb1
            have hlt1 := hR1.lt
            clear P1 hR1 hF1 hT1 hb1 hP1 hc
            go_wp2_with fail
            go_at_call 27
            refine Lx.mono ?_
            rintro e w2 ⟨rfl, pb2', m2', hT2, hF2, hP2⟩
            have hz2 := hF2.size
            have hR2 := HR1.out.frame hF2 A5 A6 hpb'1.2.1 hpb'1.2.2
            have hpb2 : B ≤ pb2' ∧ b ≠ pb2' ∧ pb' ≠ pb2' := by omega
            have hb2 : Below B w w2 := HB1.out.trans (hF2.below A2 A4 (by omega))
            have AA := all_in (W := w2) hT2 ⟨rfl, rfl, rfl, rfl⟩ t.xs T rfl HTT.out
            have HR2 : Hid (RingAt w2 b pb' m' (s.lay x).published) := hR2
            have HT2 : Hid (RingAt w2 b2 pb2' m2' (t.lay x)) := hT2
            have HB2 : Hid (Below B w w2) := hb2
            clear Lx hT2 hF2 hR2 hb2 hc1 hP2
            go_wp2_with fail
            go_at_call 21
            refine AA.mono ?_
            rintro e w3 ⟨a3, cap3, rfl, q1, q2, _, hB3⟩
            have hR3 := HR2.out.below hB3 (Nat.le_refl _)
            have hT3 := HT2.out.below hB3 (Nat.le_refl _)
            have hb3 : Below B w w3 := HB2.out.trans (hB3.mono (by omega))
            have K1 := lay_laid hT3 rfl v
            have K2 := push_laid hT3 rfl v
            have K3 : Calls Try.prog 18 #[.pointer (some ⟨b, 0, none⟩)] w3 fun e w' => e = .returned (.int .i64 ((T : Int) + 1)) ∧ ∃ n', w' = w3.drewN n' :=
              len_is hR3 ((T : Int) + 1) (by show (((s.xs ++ [x]).length : Nat) : Int) = _; rw [List.length_append, HREL.out.xs, HTT.out]; simp) 0
            have K4 := fun n => ring_publish_some (hT3.drewN n) rfl
            have hss : (T : Int) + 1 - 1 = T := by omega
            have HR3 : Hid (RingAt w3 b pb' m' (s.lay x).published) := hR3
            have HB3 : Hid (Below B w w3) := hb3
            have hz3 := hB3.size
            have q3 := hR3.lt
            have q4 := hT3.lt
            clear AA hB3 hR3 hT3 hb3
            go_wp2_with (first
              | (go_at_call 27; (with_reducible refine K1.mono ?_); rintro e w' ⟨rfl, rfl⟩)
              | (go_at_call 23; (with_reducible refine K2.mono ?_); rintro e w' ⟨rfl, rfl⟩)
              | (go_at_call 18; (with_reducible refine K3.mono ?_); rintro e w' ⟨rfl, n1, rfl⟩))
            go_at_call 28
            (with_reducible refine (K4 _).mono ?_)
            rintro e w4 ⟨rfl, hT4, hF4⟩
            have hR4 : RingAt w4 b pb' m' (s.lay x).published := (HR3.out.drewN n1).frame hF4 A5 hpb2.2.1 hpb'1.2.1 hpb2.2.2
            have hb4 : Below B w w4 := (below_drewN HB3.out n1).trans (hF4.below A2 hpb2.1 (by show B ≤ w3.heap.size; omega))
            have q5 := hR4.lt
            have q6 := hT4.lt
            have HI : Hid (∀ n, HalInv w B b b2 (w4.drewN n)) := fun n => ⟨pb', pb2', m', m2', _, _, hR4.drewN n, hT4.drewN n, ⟨A1, A2, hpb'1.1, hpb2.1, A5, hpb2.2.1, hpb'1.2.1, hpb2.2.2, q5.1, q6.1, q5.2, q6.2⟩, below_drewN hb4 n, (HREL.out.lay x).published, rfl⟩
            clear K1 K2 K3 K4 hT4 hF4 hR4 hb4 q3 q4 q5 q6
            go_wp2
            go_roundw
            case rel => exact ⟨k + 1, by omega, by omega, by go_num, HI.out 0⟩
            case measure => simp [intOf]; omega
          · have hf : s.free = 0 := by
              rcases Decidable.em (s.free = 0) with c | c
              · exact c
              · exact absurd (by simp [layE, hla, c]) h0
            have htf : t.free = 0 := by rw [← hRel.free]; exact hf
            have htla : t.laid = false := by rw [← hRel.laid]; exact hla
            have P1 := push_full hR hla hf x
            have P2 := fun n => lay_full (hT.drewN n) htla htf x
            have HREL : Hid (Rel 0 s t) := hRel
            have HT : Hid (RingAt wr b2 pb2 m2 t) := hT
            have HRR : Hid (RingAt wr b pb m s) := hR
            have HLA : Hid (s.laid = false ∧ t.laid = false) := ⟨hla, htla⟩
            have AA := fun n => all_in (W := wr.drewN n) hT ⟨rfl, rfl, rfl, rfl⟩ t.xs _ rfl rfl
            have q1 := hR.lt
            have q2 := hT.lt
            clear hR hT hRel hla htla hf htf h0
            go_wp2_with (first
              | (go_at_call 23; (with_reducible refine P1.mono ?_); rintro e w' ⟨rfl, n1, rfl⟩)
              | (go_at_call 27; (with_reducible refine (P2 _).mono ?_); rintro e w' ⟨rfl, n1, rfl⟩))
            go_at_call 21
            (with_reducible refine (AA _).mono ?_)
            rintro e w3 ⟨a3, cap3, rfl, _, _, _, hB3⟩
            have hR3 := HRR.out.below hB3 (Nat.le_refl _)
            have hT3 := HT.out.below hB3 (Nat.le_refl _)
            have hz3 := hB3.size
            have hb3 : Below B w w3 := HBEL.out.trans (hB3.mono (by omega))
            have K4 := ring_publish_none hT3 HLA.out.2
            have HI : Hid (∀ n, HalInv w B b b2 (w3.drewN n)) := fun n => ⟨pb, pb2, m, m2, _, _, hR3.drewN n, hT3.drewN n, ⟨A1, A2, A3, A4, A5, A6, A7, A8, by show b < w3.heap.size; omega, by show b2 < w3.heap.size; omega, by show pb < w3.heap.size; omega, by show pb2 < w3.heap.size; omega⟩, below_drewN hb3 n, HREL.out, HLA.out.1⟩
            clear P1 P2 AA hR3 hT3 hB3 hb3
            go_wp2_with (go_at_call 28; (with_reducible refine K4.mono ?_); rintro e w' ⟨rfl, rfl⟩)
            go_roundw
            case rel => exact ⟨k + 1, by omega, by omega, by go_num, HI.out 0⟩
            case measure => simp [intOf]; omega
        · have P1 := pop_is hR (peekV s) (peekE s) (freeS s) rfl rfl rfl
          have HREL : Hid (Rel 0 s t) := hRel
          have HT : Hid (RingAt wr b2 pb2 m2 t) := hT
          have HLA : Hid (s.laid = false) := hla
          have e1 : peekV t = peekV s := hRel.peekV.symm
          have e2 : peekE t = peekE s := hRel.peekE.symm
          have HE : Hid (peekV t = peekV s ∧ peekE t = peekE s) := ⟨e1, e2⟩
          obtain ⟨pv, hpv⟩ : ∃ x, x = peekV s := ⟨_, rfl⟩
          obtain ⟨pe, hpe⟩ : ∃ x, x = peekE s := ⟨_, rfl⟩
          rw [← hpv, ← hpe] at P1
          have HP : Hid (pv = peekV s ∧ pe = peekE s) := ⟨hpv, hpe⟩
          clear hR hT hRel hla e1 e2 hpv hpe
          go_wp2_with fail
          go_at_call 24
          refine P1.mono ?_
          rintro e w1 ⟨rfl, hR1, hF1⟩
          have hT1 := HT.out.frame hF1 (Ne.symm A5) (Ne.symm A7) (Ne.symm A6) (Ne.symm A8)
          have PK := peek_is hT1 0 pv pe (HE.out.1.trans HP.out.1.symm) (HE.out.2.trans HP.out.2.symm)
          have PK0 : Calls Try.prog 25 #[.pointer (some ⟨b2, 0, none⟩)] w1 fun e' w' => e' = .returned (.tuple #[.int .i64 pv, .int .i64 pe]) ∧ ∃ n', w' = w1.drewN n' := PK
          have HR1 : Hid (RingAt w1 b pb m (freeS s)) := hR1
          have HT1 : Hid (RingAt w1 b2 pb2 m2 t) := hT1
          have HF1 : Hid (Fr b pb wr w1) := hF1
          clear P1 hR1 hF1 hT1 PK
          go_wp2_with (go_at_call 25; (with_reducible refine PK0.mono ?_); rintro e w' ⟨rfl, n1, rfl⟩)
          have Fx := ring_free (HT1.out.drewN n1)
          rw [HE.out.2, ← HP.out.2] at Fx
          go_at_call 26
          refine Fx.mono ?_
          rintro e w2 ⟨rfl, _, hT2, hF2, _⟩
          have hz1 := HF1.out.size
          have hR2 : RingAt w2 b pb m (freeS s) := (HR1.out.drewN n1).frame hF2 A5 A6 A7 A8
          have hb1 : Below B wr w1 := HF1.out.below A1 A3 (by omega)
          have hb2 : Below B (w1.drewN n1) w2 := hF2.below A2 A4 (by show B ≤ w1.heap.size; omega)
          have q1 := hR2.lt
          have q2 := hT2.lt
          have HI : Hid (∀ n, HalInv w B b b2 (w2.drewN n)) := fun n => ⟨pb, pb2, m, m2, _, _, hR2.drewN n, hT2.drewN n, ⟨A1, A2, A3, A4, A5, A6, A7, A8, q1.1, q2.1, q1.2, q2.2⟩, below_drewN ((below_drewN (HBEL.out.trans hb1) n1).trans hb2) n, HREL.out.freeS, by rw [freeS_laid]; exact HLA.out⟩
          clear Fx hT2 hF2 hR2 hb1 hb2 q1 q2 PK0
          go_wp2
          go_roundw
          case rel => exact ⟨k + 1, by omega, by omega, by go_num, HI.out 0⟩
          case measure => simp [intOf]; omega
      · obtain ⟨pb, pb2, m, m2, s, t, hR, hT, hA, hbel, hRel, hla⟩ := hI
        have htl : t.xs.length ≤ 4096 := by have := hT.1.hcap; omega
        obtain ⟨T, hTT⟩ : ∃ T, t.xs.length = T := ⟨_, rfl⟩
        rw [hTT] at htl
        have Q1 := all_in (W := wr) hR ⟨rfl, rfl, rfl, rfl⟩ t.xs T hRel.xs hTT
        have HTT : Hid (t.xs.length = T) := hTT
        have HT : Hid (RingAt wr b2 pb2 m2 t) := hT
        have HBEL : Hid (Below B w wr) := hbel
        have hz0 : B ≤ wr.heap.size := by have := hbel.size; have := HB.out; omega
        clear hR hT hbel hRel hla hTT hA
        go_wp2_with fail
        go_at_call 21
        refine Q1.mono ?_
        rintro e w1 ⟨a1, cap1, rfl, _, _, hRd1, hB1⟩
        have hT1 := HT.out.below hB1 (Nat.le_refl _)
        have Q2 := all_in (W := w1) hT1 ⟨rfl, rfl, rfl, rfl⟩ t.xs T rfl HTT.out
        have hz1 := hB1.size
        have HRD1 := Lib.hid hRd1
        have HB1 : Hid (Below B w w1) := HBEL.out.trans (hB1.mono hz0)
        clear Q1 hT1 hRd1 hB1
        go_wp2_with fail
        go_at_call 21
        refine Q2.mono ?_
        rintro e w2 ⟨a2, cap2, rfl, _, _, hRd2, hB2⟩
        have C1 := fun cc1 cc2 => same_is' w2 a1 a2 T T cc1 cc2 t.xs t.xs _ _ (HRD1.out.keep hB2.size (fun g _ hg => hB2.block g hg)) hRd2 HTT.out HTT.out (by omega) (by omega) true (by simp)
        have HB2 : Hid (Below B w w2) := HB1.out.trans (hB2.mono (by omega))
        clear Q2 hRd2 hB2
        go_wp2_with (go_at_call 17; (with_reducible refine (C1 _ _).mono ?_); rintro e w' ⟨rfl, n2, rfl⟩)
        go_ret
        exact ⟨rfl, below_drewN HB2.out _⟩
    · obtain ⟨pb, pb2, m, m2, s, t, hR, hT, hA, hbel, hRel, hla⟩ := hI
      have htl : t.xs.length ≤ 4096 := by have := hT.1.hcap; omega
      obtain ⟨T, hTT⟩ : ∃ T, t.xs.length = T := ⟨_, rfl⟩
      rw [hTT] at htl
      have Q1 := all_in (W := wr) hR ⟨rfl, rfl, rfl, rfl⟩ t.xs T hRel.xs hTT
      have HTT : Hid (t.xs.length = T) := hTT
      have HT : Hid (RingAt wr b2 pb2 m2 t) := hT
      have HBEL : Hid (Below B w wr) := hbel
      have hz0 : B ≤ wr.heap.size := by have := hbel.size; have := HB.out; omega
      clear hR hT hbel hRel hla hTT hA
      go_wp2_with fail
      go_at_call 21
      refine Q1.mono ?_
      rintro e w1 ⟨a1, cap1, rfl, _, _, hRd1, hB1⟩
      have hT1 := HT.out.below hB1 (Nat.le_refl _)
      have Q2 := all_in (W := w1) hT1 ⟨rfl, rfl, rfl, rfl⟩ t.xs T rfl HTT.out
      have hz1 := hB1.size
      have HRD1 := Lib.hid hRd1
      have HB1 : Hid (Below B w w1) := HBEL.out.trans (hB1.mono hz0)
      clear Q1 hT1 hRd1 hB1
      go_wp2_with fail
      go_at_call 21
      refine Q2.mono ?_
      rintro e w2 ⟨a2, cap2, rfl, _, _, hRd2, hB2⟩
      have C1 := fun cc1 cc2 => same_is' w2 a1 a2 T T cc1 cc2 t.xs t.xs _ _ (HRD1.out.keep hB2.size (fun g _ hg => hB2.block g hg)) hRd2 HTT.out HTT.out (by omega) (by omega) true (by simp)
      have HB2 : Hid (Below B w w2) := HB1.out.trans (hB2.mono (by omega))
      clear Q2 hRd2 hB2
      go_wp2_with (go_at_call 17; (with_reducible refine (C1 _ _).mono ?_); rintro e w' ⟨rfl, n2, rfl⟩)
      go_ret
      exact ⟨rfl, below_drewN HB2.out _⟩
end Go.Proofs.Ytfphelhgfjdjoaa
