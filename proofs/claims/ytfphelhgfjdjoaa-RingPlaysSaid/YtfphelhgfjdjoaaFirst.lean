/-
  The walk of the law RingFirst.
-/
import Derived.Test.YtfphelhgfjdjoaaRel
import Derived.Deep.RegionHeld3
import Derived.Lib.Hide
namespace Go.Proofs.Ytfphelhgfjdjoaa
open Go.RowKit

section
variable {w : World} {b pb m : Nat} {s : RingSt}
/-- All, said by what its slice reads as, in whatever world with that heap. -/
theorem all_in {W : World} (h : RingAt w b pb m s) (hW : W.heap = w.heap ∧ W.os = w.os ∧ W.tape = w.tape ∧ W.output = w.output) (l : List Int) (n : Nat) (hl : s.xs = l) (hn : l.length = n) :
    Calls Try.prog 21 #[.pointer (some ⟨b, 0, none⟩)] W fun e w' => ∃ a cap, e = .returned (.slice a n cap) ∧ n ≤ cap ∧ cap ≤ maxLen ∧ Rd w' a l (fun g => w.heap.size ≤ g) ∧ Below w.heap.size w w' := by
  obtain ⟨h1, h2, h3, h4⟩ := hW
  subst hl hn
  refine (ring_all (h.keep (w' := W) (by rw [h1]) (by rw [h1]))).mono ?_
  rintro e w' ⟨v, rfl, hI, e5⟩
  obtain ⟨a, cap, rfl, e2, e3, e4⟩ := ints_rd' hI
  rw [h1] at e4
  exact ⟨a, cap, rfl, e2, e3, e4, ⟨e5.os.trans h2, e5.tape.trans h3, e5.output.trans h4, by rw [← h1]; exact e5.size, fun k hk => by rw [← h1]; exact e5.block k (by rw [h1]; exact hk)⟩⟩
theorem peek_is (h : RingAt w b pb m s) (n : Nat) (v e : Int) (hv : peekV s = v) (he : peekE s = e) :
    Calls Try.prog 25 #[.pointer (some ⟨b, 0, none⟩)] (w.drewN n) fun e' w' => e' = .returned (.tuple #[.int .i64 v, .int .i64 e]) ∧ ∃ n', w' = (w.drewN n).drewN n' := by
  subst hv he; exact ring_peek (h.drewN n)
end

theorem rd_drop {w : World} {a : Option Addr} {l : List Int} {G : Nat → Prop} (h : Rd w a l G) (k cap : Nat) (hc : l.length ≤ cap) :
    Rd w (if cap = k then a else Option.map (fun x => x.add k) a) (l.drop k) G := fun j hj => by
  simp at hj
  obtain ⟨g, off, rfl, h2, h3, h4⟩ := h (k + j) (by omega)
  rw [if_neg (by omega)]
  refine ⟨g, off + k, by simp [WideShapes.add_plain], h2, h3, ?_⟩
  rw [Nat.add_assoc, h4]
  simp

theorem rd_nil (w : World) (a : Option Addr) (G : Nat → Prop) : Rd w a [] G := fun j hj => absurd hj (Nat.not_lt_zero j)

def FirInv (W : World) (B b : Nat) (wr : World) : Prop :=
  ∃ pb m s, RingAt wr b pb m s ∧ B ≤ pb ∧ Below B W wr

set_option maxRecDepth 100000 in
set_option maxHeartbeats 4000000 in
theorem ringFirst_any (w : World) (room : Int) (a : Option Addr) (n cap : Nat) (ops : List OpS) (hn : n = ops.length) (hlc : n ≤ cap) (hcm : cap ≤ maxLen) (hr : OpsRd w w.heap.size a ops) :
    Calls Try.prog 9 #[.int .i64 room, .slice a n cap] w fun e w' => e = .returned (.bool true) ∧ Below w.heap.size w w' := by
  have V := lives_any w
  have E := fun w => early_any a n cap w hlc hcm
  have HO : Hid (OpsRd w w.heap.size a (ops.take 150)) := hr.take 150
  obtain ⟨N, hN⟩ : ∃ N, N = min n 150 := ⟨_, rfl⟩
  rw [← hN] at E
  have HN : Hid (N = (ops.take 150).length) := by show _ = _; rw [hN, hn, List.length_take]; omega
  have hN150 : N ≤ 150 := by omega
  clear hN hr hn hlc hcm
  generalize ops.take 150 = os at *
  obtain ⟨B, hB⟩ : ∃ B, B = w.heap.size := ⟨_, rfl⟩
  rw [← hB] at V HO ⊢
  have HB : Hid (B = w.heap.size) := hB
  clear hB
  go_enter Try.func9, Try.ntmps9
  go_wp2_with fail
  go_at_call 10
  refine V.mono ?_
  rintro e w1 ⟨rfl, hb1⟩
  clear V
  go_wp2_with fail
  go_at_call 11
  refine (new_any _ 9 _ (by omega)).mono ?_
  rintro e w2 ⟨rfl, hR, hb2⟩
  have z1 := hb1.size
  obtain ⟨b, hb⟩ : ∃ b, b = w1.heap.size := ⟨_, rfl⟩
  rw [← hb] at hR hb2 ⊢
  have hbB : B ≤ b := by have := HB.out; omega
  have hI : FirInv w B b w2 := ⟨b, 0, _, hR, hbB, hb1.trans (hb2.mono hbB)⟩
  clear hR hb2 hb hb1 z1
  go_wp2_with (go_at_call 13; refine (E _).mono ?_; rintro e w3 ⟨rfl, rfl⟩)
  go_loopw [6] (fun i wr => ∃ k : Nat, k ≤ N ∧ i = .int .i64 k ∧ FirInv w B b wr) (fun i _ => N - (intOf i).toNat)
  case atStart => exact ⟨0, Nat.zero_le _, rfl, hI⟩
  case round =>
    clear hI E
    obtain ⟨k, hk, rfl, hI⟩ := hrel
    by_cases hlt : k < N
    · obtain ⟨pb, m, s, hR, hpb, hbel⟩ := hI
      obtain ⟨gg, off, rfl, hgg, ⟨ok, ov, ol⟩, hos, hC⟩ := (HO.out.below hbel) k (by have := HN.out; omega)
      obtain ⟨c0, c1, a', cap', c2, hl1, hl2, hrd⟩ := hC
      have hl1 : ol.length ≤ cap' := hl1
      have hrd : Rd wr a' ol (fun g => g < B) := hrd
      obtain ⟨M, hM⟩ : ∃ M, ol.length = M := ⟨_, rfl⟩
      obtain ⟨s', hs'⟩ : ∃ x, (doStep s (ok % 8) ov ol).s = x := ⟨_, rfl⟩
      have S1 := step_is hR ok ov a' M cap' ol hM (by omega) hl2 hrd hbB hpb _ _ _ s' rfl rfl rfl hs' _ rfl
      generalize (doStep s (ok % 8) ov ol).n = nn at *
      generalize (doStep s (ok % 8) ov ol).e = ee at *
      generalize (doStep s (ok % 8) ov ol).l = ll at *
      have HBEL : Hid (Below B w wr) := hbel
      rw [hM] at c2
      have hwz : B ≤ wr.heap.size := by have := hbel.size; have := HB.out; omega
      have hlr := hR.lt
      clear hs' hrd hR hl1 hl2 hbel hos hM
      go_wp2_with fail
      go_at_call 14
      refine S1.mono ?_
      rintro e w1 ⟨a1, cap1, rfl, _, pb', m', hR1, hF1, hP1⟩
      have hpb' : B ≤ pb' := by omega
      have hb1 : Below B w w1 := HBEL.out.trans (hF1.below hbB hpb hwz)
      have hwz1 : B ≤ w1.heap.size := by have := hF1.size; omega
      have HR1 : Hid (RingAt w1 b pb' m' s') := hR1
      have hxl : s'.xs.length ≤ 4096 := by have := hR1.1.hcap; omega
      obtain ⟨L, hL⟩ : ∃ L, s'.xs.length = L := ⟨_, rfl⟩
      have A1 := all_in (W := w1) hR1 ⟨rfl, rfl, rfl, rfl⟩ s'.xs L rfl hL
      have HL : Hid (s'.xs.length = L) := hL
      rw [hL] at hxl
      clear S1 c0 c1 c2 hP1 hF1 hR1 hL
      go_wp2_with fail
      go_at_call 21
      refine A1.mono ?_
      rintro e w2 ⟨a2, cap2, rfl, q1, q2, hRd2, hB2⟩
      have hR2 : RingAt w2 b pb' m' s' := HR1.out.below hB2 (Nat.le_refl _)
      have hb2 : Below B w w2 := hb1.trans (hB2.mono hwz1)
      have hwz2 : B ≤ w2.heap.size := by have := hB2.size; omega
      have l2 := HR1.out.lt
      have z12 := hB2.size
      have A2 := fun n => all_in (W := w2.drewN n) hR2 ⟨rfl, rfl, rfl, rfl⟩ s'.xs L rfl HL.out
      have LL := fun n => len_is hR2 (L : Int) (by rw [HL.out]) n
      have HR2 : Hid (RingAt w2 b pb' m' s') := hR2
      have HRD2 : Hid (Rd w2 a2 s'.xs (fun g => w1.heap.size ≤ g)) := hRd2
      by_cases hx : s'.xs = []
      · have PK := peek_is hR2 0 0 8 (by simp [peekV, hx]) (by simp [peekE, hx])
        have PK0 : Calls Try.prog 25 #[.pointer (some ⟨b, 0, none⟩)] w2 fun e' w' => e' = .returned (.tuple #[.int .i64 0, .int .i64 8]) ∧ ∃ n', w' = w2.drewN n' := PK
        have hL0 : L = 0 := by rw [← HL.out, hx]; rfl
        subst hL0
        have HX : Hid (s'.xs = []) := hx
        clear hx PK hRd2 hR2 hB2 A1
        go_wp2_with (first
          | (go_at_call 25; (with_reducible refine PK0.mono ?_); rintro e w' ⟨rfl, n1, rfl⟩)
          | (go_at_call 18; (with_reducible refine (LL _).mono ?_); rintro e w' ⟨rfl, n1, rfl⟩))
        go_at_call 21
        (with_reducible refine (A2 _).mono ?_)
        rintro e w3 ⟨a3, cap3, rfl, q3, q4, hRd3, hB3⟩
        have hb3 : Below B w w3 := hb2.trans (hB3.mono hwz2)
        have hR3 : RingAt w3 b pb' m' s' := HR2.out.below hB3 (Nat.le_refl _)
        have C1 := fun cc1 cc2 => same_is' w3 a3 a2 0 0 cc1 cc2 s'.xs s'.xs _ _ hRd3 (HRD2.out.keep hB3.size (fun g _ hg => hB3.block g hg)) HL.out HL.out (by omega) (by omega) true (by simp)
        have HB3 : Hid (Below B w w3) := hb3
        have HR3 : Hid (RingAt w3 b pb' m' s') := hR3
        clear A2 LL hRd3 hR3 hB3 hb3 hb2 hb1
        rcases (by omega : (k : Int) % 5 = 4 ∨ ¬ (k : Int) % 5 = 4) with h5 | h5
        · have PO := fun n => pop_is (HR3.out.drewN n) 0 8 s' (by simp [peekV, HX.out]) (by simp [peekE, HX.out]) (by simp [freeS, HX.out])
          go_wp2_with (go_at_call 17; (with_reducible refine (C1 _ _).mono ?_); rintro e w' ⟨rfl, n2, rfl⟩)
          go_at_call 24
          (with_reducible refine (PO _).mono ?_)
          rintro e w4 ⟨rfl, hR4, hF4⟩
          have hb4 : Below B w w4 := (below_drewN HB3.out _).trans (hF4.below hbB hpb' (by have := HB3.out.size; have := HB.out; simp; omega))
          have HI : Hid (∀ n, FirInv w B b (w4.drewN n)) := fun n => ⟨pb', m', _, hR4.drewN n, hpb', below_drewN hb4 n⟩
          clear PO C1 hR4 hF4 hb4
          go_wp2_with fail
          go_quiet (fail)
          go_wp2
          go_roundw
          case rel => exact ⟨k + 1, by omega, by go_num, HI.out _⟩
          case measure => simp [intOf]; omega
        · go_wp2_with (go_at_call 17; (with_reducible refine (C1 _ _).mono ?_); rintro e w' ⟨rfl, n2, rfl⟩)
          go_roundw
          case rel => exact ⟨k + 1, by omega, by go_num, pb', m', _, HR3.out.drewN _, hpb', below_drewN HB3.out _⟩
          case measure => simp [intOf]; omega
      · obtain ⟨x, r, hxr⟩ : ∃ x r, s'.xs = x :: r := by
          cases hc : s'.xs with
          | nil => exact absurd hc hx
          | cons x r => exact ⟨x, r, rfl⟩
        have PK := peek_is hR2 0 x 0 (by simp [peekV, hxr]) (by simp [peekE, hxr])
        have PK0 : Calls Try.prog 25 #[.pointer (some ⟨b, 0, none⟩)] w2 fun e' w' => e' = .returned (.tuple #[.int .i64 x, .int .i64 0]) ∧ ∃ n', w' = w2.drewN n' := PK
        have hL0 : 0 < L := by rw [← HL.out, hxr]; simp
        have hLr : L = r.length + 1 := by rw [← HL.out, hxr]; simp
        obtain ⟨g2, o2, rfl, _, _, y0⟩ := HRD2.out 0 (by rw [HL.out]; omega)
        have y0' : w2.cell? ⟨g2, o2, none⟩ = some (.int .i64 x) := by rw [hxr] at y0; simpa using y0
        have HX : Hid (s'.xs = x :: r) := hxr
        have HLR : Hid (L = r.length + 1) := hLr
        have hL1 : (0 : Int) < L := by omega
        clear hx PK hRd2 hR2 hB2 A1 y0 hxr hLr
        go_wp2_with (first
          | (go_at_call 25; (with_reducible refine PK0.mono ?_); rintro e w' ⟨rfl, n1, rfl⟩)
          | (go_at_call 18; (with_reducible refine (LL _).mono ?_); rintro e w' ⟨rfl, n1, rfl⟩))
        go_at_call 21
        (with_reducible refine (A2 _).mono ?_)
        rintro e w3 ⟨a3, cap3, rfl, q3, q4, hRd3, hB3⟩
        have hb3 : Below B w w3 := hb2.trans (hB3.mono hwz2)
        have hR3 : RingAt w3 b pb' m' s' := HR2.out.below hB3 (Nat.le_refl _)
        have hRd23 := HRD2.out.keep hB3.size (fun g _ hg => hB3.block g hg)
        have C1 := fun cc1 cc2 => same_is' w3 a3 _ L L cc1 cc2 s'.xs s'.xs _ _ hRd3 hRd23 HL.out HL.out (by omega) (by omega) true (by simp)
        have HB3 : Hid (Below B w w3) := hb3
        have HR3 : Hid (RingAt w3 b pb' m' s') := hR3
        have HRD3 := Lib.hid hRd23
        have hwz3 : B ≤ w3.heap.size := by have := hB3.size; omega
        have hlt3 : ∀ g, w1.heap.size ≤ g → g ≠ b ∧ g ≠ pb' := fun g hg => by omega
        have HLT := Lib.hid hlt3
        clear A2 LL hRd3 hR3 hB3 hb3 hb2 hb1 hRd23 hlt3
        rcases (by omega : (k : Int) % 5 = 4 ∨ ¬ (k : Int) % 5 = 4) with h5 | h5
        · have PO := fun n => pop_is (HR3.out.drewN n) x 0 s'.freed (by simp [peekV, HX.out]) (by simp [peekE, HX.out]) (by simp [freeS, HX.out])
          go_wp2_with (go_at_call 17; (with_reducible refine (C1 _ _).mono ?_); rintro e w' ⟨rfl, n2, rfl⟩)
          go_at_call 24
          (with_reducible refine (PO _).mono ?_)
          rintro e w4 ⟨rfl, hR4, hF4⟩
          have hb4 : Below B w w4 := (below_drewN HB3.out _).trans (hF4.below hbB hpb' hwz3)
          have hRd4 := HRD3.out.keep (w' := w4) hF4.size (fun g hg1 hg2 => hF4.block g hg2 (HLT.out g hg1).1 (HLT.out g hg1).2)
          have A4 := all_in (W := w4.drew) hR4 ⟨rfl, rfl, rfl, rfl⟩ r r.length (by show s'.xs.tail = r; rw [HX.out]; rfl) rfl
          have HR4 : Hid (RingAt w4 b pb' m' s'.freed) := hR4
          have HB4 : Hid (Below B w w4) := hb4
          have HW4 : Hid (B ≤ w4.heap.size) := by have := hF4.size; show B ≤ w4.heap.size; simp at this; omega
          have hlr : r.length = L - 1 := by have := HLR.out; omega
          rw [hlr] at A4
          have HLr : Hid (r.length = L - 1) := hlr
          have HXd : Hid (s'.xs.drop 1 = r) := by show _ = _; rw [HX.out]; rfl
          have hL4 : L ≤ 4096 := hxl
          clear PO C1 hb4 hlr hR4 hF4
          have hcl : (1 : Int) ≤ L := by omega
          have hLc : (L : Int) ≤ cap2 := by omega
          rcases (by omega : cap2 = 1 ∨ ¬ cap2 = 1) with hc1 | hc1
          · subst hc1
            obtain rfl : L = 1 := by omega
            have hr0 : r = [] := List.length_eq_zero_iff.1 (by have := HLr.out; omega)
            subst hr0
            simp only [Nat.sub_self] at A4
            go_wp2_with fail
            go_region_held3 (fun _ => True) (trivial) (first
              | (go_at_call 21; (with_reducible refine A4.mono ?_); rintro e w5 ⟨a5, cap5, rfl, q5, q6, hRd5, hB5⟩)
              | (go_at_call 17; (with_reducible refine (same_is' _ _ _ 0 0 _ _ [] [] _ (fun _ => True) hRd5 (rd_nil _ _ _) rfl rfl (Nat.zero_le _) (Nat.zero_le _) true rfl).mono ?_); rintro e w6 ⟨rfl, n6, rfl⟩))
            go_wp2
            go_roundw
            case rel => exact ⟨k + 1, by omega, by go_num, pb', m', _, (HR4.out.below hB5 (Nat.le_refl _)).drewN _, hpb', below_drewN (HB4.out.trans (hB5.mono HW4.out)) _⟩
            case measure => simp [intOf]; omega
          · have R5 : ∀ w5, Below w4.heap.size w4 w5 → Rd w5 (some ⟨g2, o2 + 1, none⟩) r (fun _ => True) := fun w5 hB5 => by
              have h9 := hRd4.keep hB5.size (fun g _ hg => hB5.block g hg)
              have h8 := (rd_drop h9 1 cap2 (by rw [HL.out]; omega)).mono (G' := fun _ => True) (fun _ _ _ => trivial)
              rw [if_neg hc1, HXd.out] at h8
              simpa [WideShapes.add_plain] using h8
            have HR5 := Lib.hid R5
            clear R5 hRd4
            go_wp2_with fail
            go_region_held3 (fun _ => True) (trivial) (first
              | (go_at_call 21; (with_reducible refine A4.mono ?_); rintro e w5 ⟨a5, cap5, rfl, q5, q6, hRd5, hB5⟩)
              | (go_at_call 17; (with_reducible refine (same_is' _ _ _ _ _ _ _ r r _ _ hRd5 (HR5.out _ hB5) HLr.out HLr.out (by omega) (by omega) true (by simp)).mono ?_); rintro e w6 ⟨rfl, n6, rfl⟩))
            go_wp2
            go_roundw
            case rel => exact ⟨k + 1, by omega, by go_num, pb', m', _, (HR4.out.below hB5 (Nat.le_refl _)).drewN _, hpb', below_drewN (HB4.out.trans (hB5.mono HW4.out)) _⟩
            case measure => simp [intOf]; omega
        · go_wp2_with (go_at_call 17; (with_reducible refine (C1 _ _).mono ?_); rintro e w' ⟨rfl, n2, rfl⟩)
          go_roundw
          case rel => exact ⟨k + 1, by omega, by go_num, pb', m', _, HR3.out.drewN _, hpb', below_drewN HB3.out _⟩
          case measure => simp [intOf]; omega
    · go_wp2
      go_ret
      exact ⟨rfl, by obtain ⟨_, _, _, _, _, h⟩ := hI; exact h⟩
end Go.Proofs.Ytfphelhgfjdjoaa
