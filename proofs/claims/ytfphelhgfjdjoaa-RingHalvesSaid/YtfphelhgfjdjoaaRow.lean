/-
  The walk of the law RingRow.
-/
import Derived.Test.YtfphelhgfjdjoaaScript
namespace Go.Proofs.Ytfphelhgfjdjoaa
open Go.RowKit

theorem urange (x c : Int) (hc : 0 < c) (hc2 : c < 1000) : 0 ≤ wrap64 ((IntKind.u64.wrap x).tmod c) ∧ wrap64 ((IntKind.u64.wrap x).tmod c) < c := by
  have e1 : IntKind.u64.wrap x = x % 18446744073709551616 := by simp [IntKind.wrap, IntKind.bits, IntKind.signed]
  rw [e1, Int.tmod_eq_emod_of_nonneg (by omega)]
  have h1 := Int.emod_nonneg (x % 18446744073709551616) (show c ≠ 0 by omega)
  have h2 := Int.emod_lt_of_pos (x % 18446744073709551616) hc
  unfold wrap64
  omega

/-- p, p + 1, .., n of them. -/
def Seq (p n : Nat) : List Int := (List.range' p n).map fun (x : Nat) => (x : Int)
theorem seq_len (p n : Nat) : (Seq p n).length = n := by simp [Seq]
theorem seq_snoc (p n : Nat) : Seq p n ++ [((p + n : Nat) : Int)] = Seq p (n + 1) := by simp [Seq, List.range'_concat]
theorem seq_cons (p n : Nat) : Seq p (n + 1) = (p : Int) :: Seq (p + 1) n := by simp [Seq, List.range'_succ]

def RowInv (W : World) (B b : Nat) (rm : Int) (p q : Nat) (wr : World) : Prop :=
  ∃ pb m s, RingAt wr b pb m s ∧ B ≤ pb ∧ Below B W wr ∧ s.room = rm ∧ s.laid = false ∧ p ≤ q ∧ s.xs = Seq p (q - p)

section
variable {w : World} {b pb m : Nat} {s : RingSt}
theorem len_is (h : RingAt w b pb m s) (X : Int) (hX : (s.xs.length : Int) = X) (n : Nat) :
    Calls Try.prog 18 #[.pointer (some ⟨b, 0, none⟩)] (w.drewN n) fun e w' => e = .returned (.int .i64 X) ∧ ∃ n', w' = (w.drewN n).drewN n' := by
  subst hX; exact ring_len (h.drewN n)
theorem room_is (h : RingAt w b pb m s) (X : Int) (hX : s.free = X) (n : Nat) :
    Calls Try.prog 19 #[.pointer (some ⟨b, 0, none⟩)] (w.drewN n) fun e w' => e = .returned (.int .i64 X) ∧ ∃ n', w' = (w.drewN n).drewN n' := by
  subst hX; exact ring_room (h.drewN n)
theorem push_is (h : RingAt w b pb m s) (v X : Int) (s' : RingSt) (hX : layE s = X) (hs : pushS s v = s') :
    Calls Try.prog 23 #[.pointer (some ⟨b, 0, none⟩), .int .i64 v] w fun e w' => e = .returned (.int .i64 X) ∧ Stp b pb w w' s' := by
  subst hX hs; exact ring_push h v
theorem pop_is (h : RingAt w b pb m s) (v X : Int) (s' : RingSt) (hv : peekV s = v) (hX : peekE s = X) (hs : freeS s = s') :
    Calls Try.prog 24 #[.pointer (some ⟨b, 0, none⟩)] w fun e w' => e = .returned (.tuple #[.int .i64 v, .int .i64 X]) ∧ RingAt w' b pb m s' ∧ Fr b pb w w' := by
  subst hv hX hs; exact ring_pop h
theorem RingAt.drew0 (h : RingAt w b pb m s) : RingAt (w.drewN 0) b pb m s := h
end

set_option maxRecDepth 100000 in
set_option maxHeartbeats 4000000 in
theorem ringRow_any (w : World) (room : Int) (a : Option Addr) (n cap : Nat) (ops : List OpS) (hn : n = ops.length) (hlc : n ≤ cap) (hcm : cap ≤ maxLen) (hr : OpsRd w w.heap.size a ops) :
    Calls Try.prog 4 #[.int .i64 room, .slice a n cap] w fun e w' => e = .returned (.bool true) ∧ Below w.heap.size w w' := by
  have V := lives_any w
  have E := fun w => early_any a n cap w hlc hcm
  have HO : Hid (OpsRd w w.heap.size a (ops.take 150)) := hr.take 150
  obtain ⟨N, hN⟩ : ∃ N, N = min n 150 := ⟨_, rfl⟩
  rw [← hN] at E
  have HN : Hid (N = (ops.take 150).length) := by show _ = _; rw [hN, hn, List.length_take]; omega
  have hN150 : N ≤ 150 := by omega
  clear hN hr hn hlc hcm
  generalize ops.take 150 = os at *
  obtain ⟨B, hB⟩ : ∃ B, B = w.heap.size := ⟨_, rfl⟩
  rw [← hB] at V HO ⊢
  have HB : Hid (B = w.heap.size) := hB
  clear hB
  go_enter Try.func4, Try.ntmps4
  go_wp2_with fail
  go_at_call 10
  refine V.mono ?_
  rintro e w1 ⟨rfl, hb1⟩
  clear V
  go_wp2_with fail
  have hrm : 1 ≤ wrap64 (1 + wrap64 ((IntKind.u64.wrap room).tmod 9)) ∧ wrap64 (1 + wrap64 ((IntKind.u64.wrap room).tmod 9)) ≤ 9 := by
    have := urange room 9 (by omega) (by omega)
    generalize wrap64 ((IntKind.u64.wrap room).tmod 9) = z at *
    unfold wrap64; omega
  generalize wrap64 (1 + wrap64 ((IntKind.u64.wrap room).tmod 9)) = rm at *
  obtain ⟨hrm1, hrm2⟩ := hrm
  go_at_call 11
  refine (new_any _ 4294967290 _ (by omega)).mono ?_
  rintro e w2 ⟨rfl, hR, hb2⟩
  have hb3 := hR.lt
  obtain ⟨b, hb⟩ : ∃ b, b = w1.heap.size := ⟨_, rfl⟩
  rw [← hb] at hR ⊢
  have hI : RowInv w B b rm 0 0 w2 := ⟨b, 0, _, hR, by have := hb1.size; have := HB.out; omega, hb1.trans (hb2.mono (by have := hb1.size; have := HB.out; omega)), rfl, rfl, Nat.le_refl _, rfl⟩
  have hbB : B ≤ b := by have := hb1.size; have := HB.out; omega
  clear hR hb2 hb3 hb hb1
  go_wp2_with (go_at_call 13; refine (E _).mono ?_; rintro e w3 ⟨rfl, rfl⟩)
  go_loopw [6, 7, 8] (fun x y i wr => ∃ k p q : Nat, k ≤ N ∧ q ≤ k ∧ i = .int .i64 k ∧ x = .int .i64 q ∧ y = .int .i64 p ∧ RowInv w B b rm p q wr) (fun _ _ i _ => N - (intOf i).toNat)
  case atStart => exact ⟨0, 0, 0, Nat.zero_le _, Nat.le_refl _, rfl, rfl, rfl, hI⟩
  case round =>
    clear hI E
    obtain ⟨k, p, q, hk, hqk, rfl, rfl, rfl, hI⟩ := hrel
    by_cases hlt : k < N
    · obtain ⟨pb, m, s, hR, hpb, hbel, hroom, hlaid, hpq, hxs⟩ := hI
      obtain ⟨g, off, rfl, hg, ⟨ok, ov, ol⟩, _, c0, c1, a', cap', c2, hl1, hl2, hrd⟩ := (HO.out.below hbel) k (by have := HN.out; omega)
      have K := kind_any ok ov (.slice a' ol.length cap') wr
      have hb1 := hR.lt
      have hsz := hbel.size
      by_cases h4 : ok % 8 < 4
      · go_wp2_with fail
        go_at_call 22
        refine K.mono ?_
        rintro e w1 ⟨rfl, rfl⟩
        have hRa := hR.alloc (.cells #[.int .i64 ok, .int .i64 ov, .slice a' ol.length cap'] 35)
        have hbela := hbel.alloc (by have := HB.out; omega) (.cells #[.int .i64 ok, .int .i64 ov, .slice a' ol.length cap'] 35)
        have hsa : (wr.alloc (.cells #[.int .i64 ok, .int .i64 ov, .slice a' ol.length cap'] 35)).heap.size = wr.heap.size + 1 := by simp
        clear hR c0 c1 c2 hrd K
        by_cases hfull : (q : Int) - p = rm
        · have hC := push_is hRa (q : Int) 7 s (by simp [layE, hlaid, RingSt.free, hxs, seq_len, hroom, one]; omega) (by rw [pushS, if_neg]; simp [layE, hlaid, RingSt.free, hxs, seq_len, hroom, one]; omega)
          have hd : ((q : Int) - p != rm) = false := by simpa using hfull
          go_wp2_with fail
          go_at_call 23
          refine hC.mono ?_
          rintro e w2 ⟨rfl, pb2, m2, hR2, hF2, hP2⟩
          have hpb2 : B ≤ pb2 := by omega
          have hbel2 : Below B w w2 := hbela.trans (hF2.below hbB hpb (by omega))
          have hx2 := hxs
          have hr2 := hroom
          have hl2 := hlaid
          clear hC hRa hbela hF2 hP2 hbel hxs hroom hlaid
          have hfull' : (q : Int) - p ≤ rm := by omega
          clear hfull
          have HI : Hid (∀ n, RowInv w B b rm (p) (q) (w2.drewN n)) := fun n => ⟨pb2, m2, _, hR2.drewN n, hpb2, below_drewN hbel2 n, hr2, hl2, by omega, hx2⟩
          have hL := len_is hR2 ((q : Int) - p) (by rw [hx2, seq_len]; omega)
          have hF := room_is hR2 (rm - ((q : Int) - p)) (by rw [RingSt.free, hx2, seq_len, hl2, hr2]; simp [one]; omega)
          have hL0 : Calls Try.prog 18 #[.pointer (some ⟨b, 0, none⟩)] w2 fun e w' => e = .returned (.int .i64 ((q : Int) - p)) ∧ ∃ n', w' = w2.drewN n' := hL 0
          have hXr : (q : Int) - p ≤ rm := by omega
          clear hR2 hbel2 hx2 hr2 hl2
          go_wp2_with (first
            | (go_at_call 18; refine hL0.mono ?_; rintro e w' ⟨rfl, n1, rfl⟩)
            | (go_at_call 18; refine (hL _).mono ?_; rintro e w' ⟨rfl, n1, rfl⟩)
            | (go_at_call 19; refine (hF _).mono ?_; rintro e w' ⟨rfl, n1, rfl⟩))
          go_roundw
          case rel => exact ⟨k + 1, p, q, by omega, by omega, by go_num, by go_num, by go_num, HI.out _⟩
          case measure => simp [intOf]; omega
        · have hcap := hRa.1.hcap
          rw [hxs, seq_len, hlaid, hroom] at hcap
          have hcap2 : (q : Int) - p < rm := by simp [one] at hcap; omega
          have hlay : layE s = 0 := by simp [layE, hlaid, RingSt.free, hxs, seq_len, hroom, one]; omega
          have hC := push_is hRa (q : Int) 0 (s.lay q).published hlay (by rw [pushS, if_pos hlay])
          go_wp2_with fail
          go_at_call 23
          refine hC.mono ?_
          rintro e w2 ⟨rfl, pb2, m2, hR2, hF2, hP2⟩
          have hpb2 : B ≤ pb2 := by omega
          have hbel2 : Below B w w2 := hbela.trans (hF2.below hbB hpb (by omega))
          have hx2 : ((s.lay q).published).xs = Seq p (q + 1 - p) := by
            show s.xs ++ [(q : Int)] = _
            rw [hxs, show q + 1 - p = (q - p) + 1 by omega, ← seq_snoc, show p + (q - p) = q by omega]
          have hr2 : ((s.lay q).published).room = rm := hroom
          have hl2 : ((s.lay q).published).laid = false := rfl
          generalize (s.lay q).published = s2 at *
          clear hC hRa hbela hF2 hP2 hbel hxs hroom hlaid hcap hfull hlay
          have HI : Hid (∀ n, RowInv w B b rm (p) (q + 1) (w2.drewN n)) := fun n => ⟨pb2, m2, _, hR2.drewN n, hpb2, below_drewN hbel2 n, hr2, hl2, by omega, hx2⟩
          have hL := len_is hR2 ((q : Int) + 1 - p) (by rw [hx2, seq_len]; omega)
          have hF := room_is hR2 (rm - ((q : Int) + 1 - p)) (by rw [RingSt.free, hx2, seq_len, hl2, hr2]; simp [one]; omega)
          have hL0 : Calls Try.prog 18 #[.pointer (some ⟨b, 0, none⟩)] w2 fun e w' => e = .returned (.int .i64 ((q : Int) + 1 - p)) ∧ ∃ n', w' = w2.drewN n' := hL 0
          have hXr : (q : Int) + 1 - p ≤ rm := by omega
          clear hR2 hbel2 hx2 hr2 hl2
          go_wp2_with (first
            | (go_at_call 18; refine hL0.mono ?_; rintro e w' ⟨rfl, n1, rfl⟩)
            | (go_at_call 18; refine (hL _).mono ?_; rintro e w' ⟨rfl, n1, rfl⟩)
            | (go_at_call 19; refine (hF _).mono ?_; rintro e w' ⟨rfl, n1, rfl⟩))
          go_roundw
          case rel => exact ⟨k + 1, p, q + 1, by omega, by omega, by go_num, by go_num, by go_num, HI.out _⟩
          case measure => simp [intOf]; omega
      · go_wp2_with fail
        go_at_call 22
        refine K.mono ?_
        rintro e w1 ⟨rfl, rfl⟩
        have hRa := hR.alloc (.cells #[.int .i64 ok, .int .i64 ov, .slice a' ol.length cap'] 35)
        have hbela := hbel.alloc (by have := HB.out; omega) (.cells #[.int .i64 ok, .int .i64 ov, .slice a' ol.length cap'] 35)
        have hsa : (wr.alloc (.cells #[.int .i64 ok, .int .i64 ov, .slice a' ol.length cap'] 35)).heap.size = wr.heap.size + 1 := by simp
        have hcap := hRa.1.hcap
        rw [hxs, seq_len, hlaid, hroom] at hcap
        have hcap2 : (q : Int) - p ≤ rm := by simp [one] at hcap; omega
        clear hR c0 c1 c2 hrd K hcap
        by_cases he : p = q
        · subst he
          have hxn : s.xs = [] := by rw [hxs]; simp [Seq]
          have hC := pop_is hRa 0 8 s (by simp [peekV, hxn]) (by simp [peekE, hxn]) (by simp [freeS, hxn])
          go_wp2_with fail
          go_at_call 24
          refine hC.mono ?_
          rintro e w2 ⟨rfl, hR2, hF2⟩
          have hpb2 : B ≤ pb := hpb
          have hbel2 : Below B w w2 := hbela.trans (hF2.below hbB hpb (by omega))
          have hx2 := hxs
          have hr2 := hroom
          have hl2 := hlaid
          clear hC hRa hbela hF2 hbel hxs hroom hlaid hxn
          have HI : Hid (∀ n, RowInv w B b rm (p) (p) (w2.drewN n)) := fun n => ⟨pb, m, _, hR2.drewN n, hpb2, below_drewN hbel2 n, hr2, hl2, by omega, hx2⟩
          have hL := len_is hR2 ((p : Int) - p) (by rw [hx2, seq_len]; omega)
          have hF := room_is hR2 (rm - ((p : Int) - p)) (by rw [RingSt.free, hx2, seq_len, hl2, hr2]; simp [one]; omega)
          have hL0 : Calls Try.prog 18 #[.pointer (some ⟨b, 0, none⟩)] w2 fun e w' => e = .returned (.int .i64 ((p : Int) - p)) ∧ ∃ n', w' = w2.drewN n' := hL 0
          have hXr : (p : Int) - p ≤ rm := by omega
          clear hR2 hbel2 hx2 hr2 hl2
          go_wp2_with (first
            | (go_at_call 18; refine hL0.mono ?_; rintro e w' ⟨rfl, n1, rfl⟩)
            | (go_at_call 18; refine (hL _).mono ?_; rintro e w' ⟨rfl, n1, rfl⟩)
            | (go_at_call 19; refine (hF _).mono ?_; rintro e w' ⟨rfl, n1, rfl⟩))
          go_roundw
          case rel => exact ⟨k + 1, p, p, by omega, by omega, by go_num, by go_num, by go_num, HI.out _⟩
          case measure => simp [intOf]; omega
        · have hpq2 : (p : Int) < q := by omega
          have hxc : s.xs = (p : Int) :: Seq (p + 1) (q - (p + 1)) := by rw [hxs, show q - p = (q - (p + 1)) + 1 by omega, seq_cons]
          have hC := pop_is hRa (p : Int) 0 s.freed (by simp [peekV, hxc]) (by simp [peekE, hxc]) (by simp [freeS, hxc])
          have hx2 : s.freed.xs = Seq (p + 1) (q - (p + 1)) := by show s.xs.tail = _; rw [hxc]; rfl
          have hr2 : s.freed.room = rm := hroom
          have hl2 : s.freed.laid = false := hlaid
          generalize s.freed = s2 at *
          go_wp2_with fail
          go_at_call 24
          refine hC.mono ?_
          rintro e w2 ⟨rfl, hR2, hF2⟩
          have hpb2 : B ≤ pb := hpb
          have hbel2 : Below B w w2 := hbela.trans (hF2.below hbB hpb (by omega))
          clear hC hRa hbela hF2 hbel hxs hroom hlaid hxc he
          have HI : Hid (∀ n, RowInv w B b rm (p + 1) (q) (w2.drewN n)) := fun n => ⟨pb, m, _, hR2.drewN n, hpb2, below_drewN hbel2 n, hr2, hl2, by omega, hx2⟩
          have hL := len_is hR2 ((q : Int) - ((p : Int) + 1)) (by rw [hx2, seq_len]; omega)
          have hF := room_is hR2 (rm - ((q : Int) - ((p : Int) + 1))) (by rw [RingSt.free, hx2, seq_len, hl2, hr2]; simp [one]; omega)
          have hL0 : Calls Try.prog 18 #[.pointer (some ⟨b, 0, none⟩)] w2 fun e w' => e = .returned (.int .i64 ((q : Int) - ((p : Int) + 1))) ∧ ∃ n', w' = w2.drewN n' := hL 0
          have hXr : (q : Int) - ((p : Int) + 1) ≤ rm := by omega
          clear hR2 hbel2 hx2 hr2 hl2
          go_wp2_with (first
            | (go_at_call 18; refine hL0.mono ?_; rintro e w' ⟨rfl, n1, rfl⟩)
            | (go_at_call 18; refine (hL _).mono ?_; rintro e w' ⟨rfl, n1, rfl⟩)
            | (go_at_call 19; refine (hF _).mono ?_; rintro e w' ⟨rfl, n1, rfl⟩))
          go_roundw
          case rel => exact ⟨k + 1, p + 1, q, by omega, by omega, by go_num, by go_num, by go_num, HI.out _⟩
          case measure => simp [intOf]; omega
    · go_wp2
      go_ret
      exact ⟨rfl, by obtain ⟨pb, m, s, _, _, h, _⟩ := hI; exact h⟩
end Go.Proofs.Ytfphelhgfjdjoaa
