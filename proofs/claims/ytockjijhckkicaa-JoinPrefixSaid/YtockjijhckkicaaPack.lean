/-
  The walks of Pack, the program's and the document's.
-/
import Derived.Test.YtockjijhckkicaaList
namespace Go.Proofs.Ytockjijhckkicaa
open Go.RowKit

/-- Nothing but draws. -/
def Drew (w w' : World) : Prop := ∃ n, w' = w.drewN n
theorem Drew.refl (w : World) : Drew w w := ⟨0, rfl⟩
theorem Drew.trans {w x y : World} (h : Drew w x) (k : Drew x y) : Drew w y := by
  obtain ⟨n, rfl⟩ := h
  obtain ⟨m, rfl⟩ := k
  exact ⟨n + m, by rw [World.drewN_drewN]⟩
theorem Drew.drewN {w x : World} (h : Drew w x) (n : Nat) : Drew w (x.drewN n) := h.trans ⟨n, rfl⟩
theorem Drew.cell {w x : World} (h : Drew w x) {p : Addr} {v : Option Value} (k : w.cell? p = v) : x.cell? p = v := by
  obtain ⟨n, rfl⟩ := h
  exact k
theorem Drew.rd {w x : World} (h : Drew w x) {a : Option Addr} {vs : List Value} (k : Rd w a vs) : Rd x a vs := by
  obtain ⟨n, rfl⟩ := h
  exact k
theorem below_drewN {B : Nat} {w x : World} (h : Below B w x) (n : Nat) : Below B w (x.drewN n) := ⟨h.os, h.tape, h.output, h.size, h.block⟩
theorem Drew.below {w x : World} (h : Drew w x) (B : Nat) : Below B w x := by
  obtain ⟨n, rfl⟩ := h
  exact below_drewN (Below.refl _ _) _

def small (vs : List Nat) : Prop := ∀ v ∈ vs, v < 4294967296
theorem small.get {vs : List Nat} (h : small vs) (k : Nat) : vs.getD k 0 < 4294967296 := by
  by_cases hk : k < vs.length
  · have : vs.getD k 0 = vs[k] := by simp [hk]
    rw [this]; exact h _ (List.getElem_mem hk)
  · have : vs.getD k 0 = 0 := by simp [Nat.le_of_not_lt hk]
    rw [this]; decide

theorem pack_step {l : List Int} {vs : List Nat} {k : Nat} (h1 : k < l.length) (h2 : k < vs.length) (W : Nat) (q s : Int) (v : Nat) (hs : s = l.getD k 0) (hv : v = vs.getD k 0) :
    packF W q (l.drop k) (vs.drop k) = if (putR W q s v).2 = 0 then packF (putR W q s v).1 (q + s) (l.drop (k + 1)) (vs.drop (k + 1)) else (0, (putR W q s v).2) := by
  rw [dropi h1, dropu h2, ← hs, ← hv, packF]

theorem pack_end {l : List Int} {vs : List Nat} {k : Nat} (h1 : k = l.length) (W : Nat) (q : Int) : packF W q (l.drop k) (vs.drop k) = (W, 0) := by
  rw [h1, List.drop_length]; rfl

theorem pack_no (w : World) (a1 a2 : Option Addr) (n m c1 c2 : Nat) (l : List Int) (vs : List Nat) (hn : n = l.length) (hm : m = vs.length) (hl : n ≤ 1000000) (hk : m ≤ 1000000) (hr : Rd w a1 (vi l))
    (h : ¬ (l.length = vs.length ∧ roomF 0 l = true)) :
    Calls Try.prog 55 #[.slice a1 n c1, .slice a2 m c2] w fun e w' => e = .returned (.tuple #[.int .u64 0, .int .i64 1]) ∧ Drew w w' := by
  by_cases he : n = m
  · have K := room_any w a1 n c1 l hn hl hr
    have hf : roomF 0 l = false := by
      have : ¬ roomF 0 l = true := fun c => h ⟨by omega, c⟩
      simpa using this
    rw [hf] at K
    subst he
    clear hr h hf hm hn
    go_enter Try.func55, Try.ntmps55
    go_wp2_with (go_at_call 58; refine K.mono ?_; rintro e w' ⟨rfl, rfl⟩)
    go_ret2
    exact ⟨rfl, Drew.refl _⟩
  · have t1 : ((m : Int) == (n : Int)) = false := by simp; omega
    have t2 : ((m : Int) != (n : Int)) = true := by simp; omega
    clear hr h hm hn he
    go_enter Try.func55, Try.ntmps55
    go_wp2
    go_ret2
    exact ⟨rfl, Drew.refl _⟩

set_option maxHeartbeats 400000 in
theorem pack_yes (w : World) (a1 a2 : Option Addr) (n c1 c2 : Nat) (l : List Int) (vs : List Nat) (hn : n = l.length) (hm : n = vs.length) (hl : n ≤ 1000000) (hr : Rd w a1 (vi l)) (hv : Rd w a2 (vu vs)) (hsm : small vs)
    (h : roomF 0 l = true) :
    Calls Try.prog 55 #[.slice a1 n c1, .slice a2 n c2] w fun e w' => e = .returned (.tuple #[.int .u64 ((packF 0 0 l vs).1 : Nat), .int .i64 (packF 0 0 l vs).2]) ∧ Drew w w' := by
  have K := room_any w a1 n c1 l hn hl hr
  rw [h] at K
  obtain ⟨R, hR⟩ : ∃ R, R = packF 0 0 l vs := ⟨_, rfl⟩
  rw [← hR]
  have HR : Hid (R = packF 0 0 l vs) := hR
  have HN : Hid (n = l.length) := hn
  have HM : Hid (n = vs.length) := hm
  have H1 : Hid (Rd w a1 (vi l)) := hr
  have H2 : Hid (Rd w a2 (vu vs)) := hv
  have HS : Hid (small vs) := hsm
  clear hn hm hr hv hsm h hR
  go_enter Try.func55, Try.ntmps55
  go_wp2_with (go_at_call 58; refine K.mono ?_; rintro e w' ⟨rfl, rfl⟩)
  go_loopw [6, 7, 24] (fun x y i wr => ∃ (k W : Nat) (q : Int), k ≤ n ∧ 0 ≤ q ∧ q ≤ 64 ∧ W < 18446744073709551616 ∧ i = .int .i64 k ∧ x = .int .u64 (W : Int) ∧ y = .int .i64 q ∧ Drew w wr ∧ Hid (R = packF W q (l.drop k) (vs.drop k))) (fun _ _ i _ => n - (intOf i).toNat)
  case atStart => exact ⟨0, 0, 0, Nat.zero_le _, by omega, by omega, by decide, rfl, rfl, rfl, Drew.refl _, HR⟩
  case round =>
    obtain ⟨k, W, q, hk, hq0, hq1, hW, rfl, rfl, rfl, hD, hq⟩ := hrel
    by_cases hlt : k < n
    · have h1 : k < l.length := by have := HN.out; omega
      have h2 : k < vs.length := by have := HM.out; omega
      obtain ⟨g, off, rfl, hc⟩ := H1.out.cell (vi_at h1)
      obtain ⟨g2, off2, rfl, hc2⟩ := H2.out.cell (vu_at h2)
      have hvs := HS.out.get k
      have hst := hq.out
      rw [pack_step h1 h2 W q _ _ rfl rfl] at hst
      generalize l.getD k 0 = s at *
      generalize vs.getD k 0 = v at *
      have hc' := hD.cell hc
      have hc2' := hD.cell hc2
      have P := put_any W q s v hW hvs wr
      have hlt2 := putR_lt W q s v hW
      have hok := @putR_ok W q s v
      have htwo := putR_two W q s v
      have HD : Hid (Drew w wr) := hD
      clear hc hc2 hq hD
      generalize putR W q s v = r at *
      obtain ⟨r1, r2⟩ := r
      simp only at P hlt2 hok htwo hst
      by_cases hz : r2 = 0
      · subst hz
        have hf := fld_of (hok rfl).1
        have hs' : Hid (R = packF r1 (q + s) (l.drop (k + 1)) (vs.drop (k + 1))) := by rw [if_pos rfl] at hst; exact hst
        have b1 : 0 ≤ q + s := by omega
        obtain ⟨_, _, _, b2⟩ := hf
        clear hst hok htwo
        go_wp2_with (go_at_call 60; refine P.mono ?_; rintro e w' ⟨rfl, m, rfl⟩)
        go_roundw
        case rel => exact ⟨k + 1, r1, q + s, by omega, b1, b2, hlt2, by go_num, rfl, rfl, HD.out.drewN _, hs'⟩
        case measure => simp [intOf]; omega
      · have t1 : (r2 == 0) = false := by simpa using hz
        have t2 : (r2 != 0) = true := by simpa using hz
        have hs' : Hid (R = (0, r2)) := by rw [if_neg hz] at hst; exact hst
        clear hst hok htwo hz
        go_wp2_with (go_at_call 60; refine P.mono ?_; rintro e w' ⟨rfl, m, rfl⟩)
        go_ret2
        rw [hs'.out]
        exact ⟨rfl, HD.out.drewN _⟩
    · obtain rfl : k = n := by omega
      have h5 : Hid (R = (W, 0)) := by have := hq.out; rw [pack_end HN.out] at this; exact this
      have HD : Hid (Drew w wr) := hD
      clear hq hD
      go_wp2
      go_ret2
      rw [h5.out]
      exact ⟨rfl, HD.out⟩

theorem pack_any (w : World) (a1 a2 : Option Addr) (n m c1 c2 : Nat) (l : List Int) (vs : List Nat) (hn : n = l.length) (hm : m = vs.length) (hl : n ≤ 1000000) (hk : m ≤ 1000000) (hr : Rd w a1 (vi l)) (hv : Rd w a2 (vu vs)) (hsm : small vs) :
    Calls Try.prog 55 #[.slice a1 n c1, .slice a2 m c2] w fun e w' => e = .returned (.tuple #[.int .u64 ((packR l vs).1 : Nat), .int .i64 (packR l vs).2]) ∧ Drew w w' := by
  unfold packR
  by_cases h : l.length = vs.length ∧ roomF 0 l = true
  · rw [if_pos h]
    obtain rfl : n = m := by omega
    exact pack_yes w a1 a2 n c1 c2 l vs hn hm hl hr hv hsm h.2
  · rw [if_neg h]
    exact pack_no w a1 a2 n m c1 c2 l vs hn hm hl hk hr h

theorem rpack_apart (w : World) (a1 a2 : Option Addr) (n m c1 c2 : Nat) (_hl : n ≤ 1000000) (_hk : m ≤ 1000000) (h : n ≠ m) :
    Calls Try.prog 38 #[.slice a1 n c1, .slice a2 m c2] w fun e w' => e = .returned (.tuple #[.int .u64 0, .int .i64 1]) ∧ Drew w w' := by
  have t1 : ((n : Int) == (m : Int)) = false := by simp; omega
  have t2 : ((n : Int) != (m : Int)) = true := by simp; omega
  clear h
  go_enter Try.func38, Try.ntmps38
  go_wp2
  go_ret2
  exact ⟨rfl, Drew.refl _⟩

set_option maxHeartbeats 800000 in
theorem rpack_same (w : World) (a1 a2 : Option Addr) (n c1 c2 : Nat) (l : List Int) (vs : List Nat) (hn : n = l.length) (hm : n = vs.length) (hl : n ≤ 1000000) (hr : Rd w a1 (vi l)) (hv : Rd w a2 (vu vs)) (hsm : small vs) :
    Calls Try.prog 38 #[.slice a1 n c1, .slice a2 n c2] w fun e w' => e = .returned (.tuple #[.int .u64 ((packR l vs).1 : Nat), .int .i64 (packR l vs).2]) ∧ Drew w w' := by
  obtain ⟨R, hR⟩ : ∃ R, R = packR l vs := ⟨_, rfl⟩
  rw [← hR]
  have HR : Hid (R = packR l vs) := hR
  have HN : Hid (n = l.length) := hn
  have HM : Hid (n = vs.length) := hm
  have H1 : Hid (Rd w a1 (vi l)) := hr
  have H2 : Hid (Rd w a2 (vu vs)) := hv
  have HS : Hid (small vs) := hsm
  clear hn hm hr hv hsm hR
  go_enter Try.func38, Try.ntmps38
  go_wp2
  go_loop [6, 7] (fun x i => ∃ (k : Nat) (q : Int), k ≤ n ∧ 0 ≤ q ∧ q ≤ 64 ∧ i = .int .i64 k ∧ x = .int .i64 q ∧ Hid (roomF 0 l = roomF q (l.drop k))) (fun _ i => n - (intOf i).toNat)
  case atStart => exact ⟨0, 0, Nat.zero_le _, by omega, by omega, rfl, rfl, (rfl : _ = _)⟩
  case round =>
    obtain ⟨k, q, hk, hq0, hq1, rfl, rfl, hq⟩ := hrel
    by_cases hlt : k < n
    · have hlk : k < l.length := by have := HN.out; omega
      obtain ⟨g, off, rfl, hc⟩ := H1.out.cell (vi_at hlk)
      obtain ⟨s, hs⟩ : ∃ s, s = l.getD k 0 := ⟨_, rfl⟩
      rw [← hs] at hc
      have hd : l.drop k = s :: l.drop (k + 1) := by rw [dropi hlk, ← hs]
      have h5 := hq.out
      rw [hd, roomF] at h5
      have K := field_any q s w
      clear hs hd hq
      by_cases hf : fldB q s = true
      · rw [hf] at h5 K
        rw [Bool.true_and] at h5
        have hb := fld_of hf
        have h6 : Hid (roomF 0 l = roomF (q + s) (l.drop (k + 1))) := h5
        have hb1 : 0 ≤ q + s := by omega
        obtain ⟨_, _, _, hb2⟩ := hb
        clear h5 hf
        go_wp2_with (go_at_call 34; refine K.mono ?_; rintro e w' ⟨rfl, rfl⟩)
        go_round
        case rel => exact ⟨k + 1, q + s, by omega, hb1, hb2, by go_num, rfl, h6⟩
        case measure => simp [intOf]; omega
      · have hf' : fldB q s = false := by simpa using hf
        rw [hf'] at h5 K
        rw [Bool.false_and] at h5
        have h6 : Hid (R = (0, 1)) := by rw [HR.out, packR, if_neg (by rw [h5]; simp)]; exact rfl
        clear h5 hf hf'
        go_wp2_with (go_at_call 34; refine K.mono ?_; rintro e w' ⟨rfl, rfl⟩)
        go_ret2
        rw [h6.out]
        exact ⟨rfl, Drew.refl _⟩
    · obtain rfl : k = n := by omega
      have h5 : Hid (R = packF 0 0 l vs) := by
        have := hq.out; rw [HN.out, List.drop_length] at this
        rw [HR.out, packR, if_pos ⟨by have := HN.out; have := HM.out; omega, this⟩]; exact rfl
      clear hq
      go_wp2
      go_loopw [8, 6, 9] (fun x y i wr => ∃ (j W : Nat) (q : Int), j ≤ k ∧ 0 ≤ q ∧ q ≤ 64 ∧ W < 18446744073709551616 ∧ i = .int .i64 j ∧ x = .int .u64 (W : Int) ∧ y = .int .i64 q ∧ Drew w wr ∧ Hid (R = packF W q (l.drop j) (vs.drop j))) (fun _ _ i _ => k - (intOf i).toNat)
      case atStart => exact ⟨0, 0, 0, Nat.zero_le _, by omega, by omega, by decide, rfl, rfl, rfl, Drew.refl _, h5⟩
      case round =>
        obtain ⟨j, W, q, hj, hq0, hq1, hW, rfl, rfl, rfl, hD, hq⟩ := hrel
        by_cases hlt : j < k
        · have h1 : j < l.length := by have := HN.out; omega
          have h2 : j < vs.length := by have := HM.out; omega
          obtain ⟨g, off, rfl, hc⟩ := H1.out.cell (vi_at h1)
          obtain ⟨g2, off2, rfl, hc2⟩ := H2.out.cell (vu_at h2)
          have hvs := HS.out.get j
          have hst := hq.out
          rw [pack_step h1 h2 W q _ _ rfl rfl] at hst
          generalize l.getD j 0 = s at *
          generalize vs.getD j 0 = v at *
          have hc' := hD.cell hc
          have hc2' := hD.cell hc2
          have P := fun w => rput_any W q s v hW hvs w
          have hlt2 := putR_lt W q s v hW
          have hok := @putR_ok W q s v
          have htwo := putR_two W q s v
          have HD : Hid (Drew w wr) := hD
          have i1 : (0 : Int) ≤ j := by omega
          have i2 : (j : Int) < k := by omega
          clear hc hc2 hq hD
          generalize putR W q s v = r at *
          obtain ⟨r1, r2⟩ := r
          simp only at P hlt2 hok htwo hst
          by_cases hz : r2 = 0
          · subst hz
            have hf := fld_of (hok rfl).1
            have hs' : Hid (R = packF r1 (q + s) (l.drop (j + 1)) (vs.drop (j + 1))) := by rw [if_pos rfl] at hst; exact hst
            have b1 : 0 ≤ q + s := by omega
            obtain ⟨_, _, _, b2⟩ := hf
            clear hst hok htwo
            go_wp2
            go_quiet ((go_at_call 46; exact Calls.quiet_of_same ((P _).mono fun _ _ h => ⟨h.1, h.2.symm⟩)))
            go_wp2
            go_roundw
            case rel => exact ⟨j + 1, r1, q + s, by omega, b1, b2, hlt2, by go_num, rfl, rfl, HD.out.drewN _, hs'⟩
            case measure => simp [intOf]; omega
          · have t1 : (r2 == 0) = false := by simpa using hz
            have t2 : (r2 != 0) = true := by simpa using hz
            have hs' : Hid (R = (0, r2)) := by rw [if_neg hz] at hst; exact hst
            clear hst hok htwo hz
            go_wp2
            go_quiet ((go_at_call 46; exact Calls.quiet_of_same ((P _).mono fun _ _ h => ⟨h.1, h.2.symm⟩)))
            go_wp2
            go_ret2
            rw [hs'.out]
            exact ⟨rfl, HD.out.drewN _⟩
        · obtain rfl : j = k := by omega
          have h5 : Hid (R = (W, 0)) := by have := hq.out; rw [pack_end HN.out] at this; exact this
          have HD : Hid (Drew w wr) := hD
          clear hq hD
          go_wp2
          go_ret2
          rw [h5.out]
          exact ⟨rfl, HD.out⟩

theorem rpack_any (w : World) (a1 a2 : Option Addr) (n m c1 c2 : Nat) (l : List Int) (vs : List Nat) (hn : n = l.length) (hm : m = vs.length) (hl : n ≤ 1000000) (hk : m ≤ 1000000) (hr : Rd w a1 (vi l)) (hv : Rd w a2 (vu vs)) (hsm : small vs) :
    Calls Try.prog 38 #[.slice a1 n c1, .slice a2 m c2] w fun e w' => e = .returned (.tuple #[.int .u64 ((packR l vs).1 : Nat), .int .i64 (packR l vs).2]) ∧ Drew w w' := by
  by_cases h : n = m
  · subst h
    exact rpack_same w a1 a2 n c1 c2 l vs hn hm hl hr hv hsm
  · unfold packR
    rw [if_neg (by omega)]
    exact rpack_apart w a1 a2 n m c1 c2 hl hk h

theorem rd_new (w : World) (vs : List Value) (t : TypeId) : Rd (w.alloc (.cells ⟨vs⟩ t)) (some ⟨w.heap.size, 0, none⟩) vs := fun j v hj => by
  refine ⟨w.heap.size, 0, rfl, by simp, ?_⟩
  rw [World.cell?_alloc_at _ _ _ _ rfl, Nat.zero_add]
  simpa using hj

theorem cells_below {w w' : World} {B b : Nat} (h : Below B w w') (hb : b < B) (j : Nat) {x : Value} (hx : w.cell? ⟨b, j, none⟩ = some x) : w'.cell? ⟨b, j, none⟩ = some x :=
  (h.cell (p := ⟨b, j, none⟩) hb).trans hx
end Go.Proofs.Ytockjijhckkicaa
