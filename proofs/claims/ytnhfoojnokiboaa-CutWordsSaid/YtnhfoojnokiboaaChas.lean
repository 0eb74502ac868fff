/-
  The walks of hasHeads, of head, and of the program's Right.
-/
import Derived.Test.YtnhfoojnokiboaaRok
namespace Go.Proofs.Ytnhfoojnokiboaa
open Go.RowKit

/-- As many Heads as there may be. -/
def hasB (c : Bool) (n : Nat) : Bool := if c = true then decide (1 ≤ n ∧ n ≤ 4096) else decide (n = 1)
theorem hasB_iff (c : Bool) (n : Nat) : hasB c n = true ↔ 1 ≤ n ∧ n ≤ 4096 ∧ (c = true ∨ n = 1) := by
  unfold hasB
  cases c
  · simp; omega
  · simp

theorem has_any (s : Int) (c : Bool) (a : Option Addr) (n cap : Nat) (x : ByteArray) (w : World) :
    Calls Try.prog 30 #[pcv s c (.slice a n cap) x] w fun e w' => e = .returned (.bool (hasB c n)) ∧ Below w.heap.size w w' := by
  obtain ⟨r, hr⟩ : ∃ r, hasB c n = r := ⟨_, rfl⟩
  have HR : Hid (hasB c n = r) := hr
  rw [hr]
  clear hr
  have HB : Hid (Below w.heap.size w (w.alloc (.cells (pcc s c (.slice a n cap) x) 28))) := (Below.refl _ _).alloc (Nat.le_refl _) _
  simp only [pcv, pcc] at *
  cases c with
  | true =>
    by_cases h1 : (1 : Int) ≤ (n : Int)
    case neg =>
      have e9 : r = false := by rw [← HR.out]; unfold hasB; rw [if_pos rfl]; exact decide_eq_false (by omega)
      subst e9
      go_enter Try.func30, Try.ntmps30
      go_wp2
      go_ret
      exact ⟨rfl, HB.out⟩
    by_cases h2 : (n : Int) ≤ 4096
    · have e9 : r = true := by rw [← HR.out]; unfold hasB; rw [if_pos rfl]; exact decide_eq_true (by omega)
      subst e9
      go_enter Try.func30, Try.ntmps30
      go_wp2
      go_ret
      exact ⟨rfl, HB.out⟩
    · have e9 : r = false := by rw [← HR.out]; unfold hasB; rw [if_pos rfl]; exact decide_eq_false (by omega)
      subst e9
      go_enter Try.func30, Try.ntmps30
      go_wp2
      go_ret
      exact ⟨rfl, HB.out⟩
  | false =>
    by_cases h1 : (n : Int) = 1
    · have hb1 : ((n : Int) == 1) = true := by simp [h1]
      have e9 : r = true := by rw [← HR.out]; unfold hasB; rw [if_neg (by simp)]; exact decide_eq_true (by omega)
      subst e9
      go_enter Try.func30, Try.ntmps30
      go_wp2
      go_ret
      exact ⟨rfl, HB.out⟩
    · have hb1 : ((n : Int) == 1) = false := by simp [h1]
      have e9 : r = false := by rw [← HR.out]; unfold hasB; rw [if_neg (by simp)]; exact decide_eq_false (by omega)
      subst e9
      go_enter Try.func30, Try.ntmps30
      go_wp2
      go_ret
      exact ⟨rfl, HB.out⟩

set_option maxRecDepth 100000 in
set_option maxHeartbeats 4000000 in
theorem chead_any (s : Int) (c : Bool) (a : Option Addr) (cap : Nat) (x : ByteArray) (hs : List (Int × Int)) (k : Nat) (w : World) (hl : hs.length ≤ 1000000) (_hx : x.size ≤ maxLen) (hr : Rd w a (pc hs)) (hk : k < hs.length) :
    Calls Try.prog 28 #[pcv s c (.slice a hs.length cap) x, .int .i64 k] w fun e w' => e = .returned (flv (hdF ⟨s, c, hs, x⟩ k)) ∧ Below w.heap.size w w' := by
  obtain ⟨g, o, rfl, hg, c3, c4⟩ := hr.pair (k := k) hk
  simp only [flv, flc, hdF]
  generalize (hs.getD k (0, 0)).1 = p at *
  generalize (hs.getD k (0, 0)).2 = q at *
  obtain ⟨n, hn⟩ : ∃ n, hs.length = n := ⟨_, rfl⟩
  rw [hn] at hl hk ⊢
  clear hr hn
  obtain ⟨M, hM⟩ : ∃ M, decide (k + 1 < n) = M := ⟨_, rfl⟩
  rw [hM]
  have f0 : (0 : Int) ≤ (k : Int) := by omega
  have f1 : (k : Int) < (n : Int) := by omega
  have B2 : Hid (∀ b, Below w.heap.size w (((w.alloc (.cells (pcc s c (.slice (some ⟨g, o, none⟩) n cap) x) 28)).alloc (.cells #[.int .i64 1, .int .i64 s, .int .i64 p, .int .i64 q, .int .i64 (x.size : Int), .bool b, .bool c, .string ByteArray.empty] 58)).alloc (.cells #[.int .i64 p, .int .i64 q] 55))) := show _ from fun b => (((Below.refl _ _).alloc (Nat.le_refl _) _).alloc (by simp) _).alloc (by simp; omega) _
  have hwr : IntKind.i64.wrap ((n : Int) - 1) = (n : Int) - 1 := by first | exact IntWalk.i64_in _ (by omega) | (rw [IntKind.wrap_i64]; omega)
  simp only [pcv, pcc] at *
  by_cases h1 : k + 1 < n
  · have e9 : M = true := by rw [← hM]; exact decide_eq_true h1
    subst e9
    clear hM
    have f2 : (k : Int) < (n : Int) - 1 := by omega
    go_enter Try.func28, Try.ntmps28
    go_wp2
    refine bodyPost_ret (v := .agg #[.int .i64 1, .int .i64 s, .int .i64 p, .int .i64 q, .int .i64 (x.size : Int), .bool true, .bool c, .string ByteArray.empty]) (by simp [results, Try.results28, go_sem]; try rfl) rfl ⟨rfl, B2.out _⟩
  · have e9 : M = false := by rw [← hM]; exact decide_eq_false h1
    subst e9
    clear hM
    have f2 : ¬ (k : Int) < (n : Int) - 1 := by omega
    go_enter Try.func28, Try.ntmps28
    go_wp2
    refine bodyPost_ret (v := .agg #[.int .i64 1, .int .i64 s, .int .i64 p, .int .i64 q, .int .i64 (x.size : Int), .bool false, .bool c, .string ByteArray.empty]) (by simp [results, Try.results28, go_sem]; try rfl) rfl ⟨rfl, B2.out _⟩

/-- A Head that may be, in a parcel that has no more than may be. -/
theorem hd_bad {p : Pc} {k : Nat} (hk : k < p.hs.length) (h : (hdF p k).rightB = false) : p.okB = false := by
  rw [← Bool.not_eq_true]
  intro h2
  rw [hd_right h2 hk] at h
  cases h
theorem hd_good {p : Pc} (h0 : hasB p.c p.hs.length = true) (h : ∀ k, k < p.hs.length → (hdF p k).rightB = true) : p.okB = true := by
  obtain ⟨a1, a2, a3⟩ := (hasB_iff _ _).1 h0
  have hh : ∀ k, k < p.hs.length → (0 ≤ p.s ∧ p.s ≤ 4095) ∧ p.x.size ≤ 64 ∧ headOk (p.hs.getD k (0, 0)) = true := fun k hk => by
    have h1 := h k hk
    have e : (hdF p k).k = 1 := rfl
    rw [fl_right_one e, head_iff, Bool.and_eq_true, decide_eq_true_eq] at h1
    obtain ⟨⟨b1, b2, b3, b4, b5, b6, b7, b8⟩, _⟩ := h1
    refine ⟨⟨b1, b2⟩, ?_, (headOk_iff _).2 ⟨b3, b4, b5, b6⟩⟩
    have : ((p.x.size : Nat) : Int) ≤ 64 := b8
    omega
  rw [ok_iff]
  exact ⟨(hh 0 (by omega)).1, ⟨a1, a2, a3⟩, (hh 0 (by omega)).2.1, all_heads fun j hj => (hh j hj).2.2⟩

set_option maxRecDepth 100000 in
set_option maxHeartbeats 4000000 in
theorem cok_any (s : Int) (c : Bool) (a : Option Addr) (cap : Nat) (x : ByteArray) (hs : List (Int × Int)) (w : World) (hl : hs.length ≤ 1000000) (hx : x.size ≤ maxLen) (hr : Rd w a (pc hs)) :
    Calls Try.prog 15 #[pcv s c (.slice a hs.length cap) x] w fun e w' => e = .returned (.bool (Pc.okB ⟨s, c, hs, x⟩)) ∧ Below w.heap.size w w' := by
  obtain ⟨r, hk⟩ : ∃ r, Pc.okB ⟨s, c, hs, x⟩ = r := ⟨_, rfl⟩
  have HK : Hid (Pc.okB ⟨s, c, hs, x⟩ = r) := hk
  rw [hk]
  clear hk
  have HR : Hid (Rd w a (pc hs)) := hr
  have CH : Hid (∀ k, k < hs.length → ∀ w', Below w.heap.size w w' → Calls Try.prog 28 #[pcv s c (.slice a hs.length cap) x, .int .i64 k] w' fun e w2 => e = .returned (flv (hdF ⟨s, c, hs, x⟩ k)) ∧ Below w'.heap.size w' w2) := show _ from fun k hk w' hb => chead_any s c a cap x hs k w' hl hx (hr.below hb) hk
  have HG : Hid (hasB c hs.length = true → (∀ k, k < hs.length → (hdF ⟨s, c, hs, x⟩ k).rightB = true) → r = true) := show _ from fun h1 h2 => by rw [← HK.out]; exact hd_good h1 h2
  have HD : Hid (∀ k, k < hs.length → (hdF ⟨s, c, hs, x⟩ k).rightB = false → r = false) := show _ from fun k h1 h2 => by rw [← HK.out]; exact hd_bad (p := ⟨s, c, hs, x⟩) h1 h2
  have HN0 : Hid (hasB c hs.length = false → r = false) := show _ from fun h => by
    rw [← HK.out, ← Bool.not_eq_true]
    intro h2
    have := (hasB_iff c hs.length).2 ((ok_iff _).1 h2).2.1
    rw [h] at this
    cases this
  obtain ⟨n, hn⟩ : ∃ n, hs.length = n := ⟨_, rfl⟩
  rw [hn] at hl CH HG HD HN0 ⊢
  clear hr hn HK
  have CA := has_any s c a n cap x (w.alloc (.cells (pcc s c (.slice a n cap) x) 28))
  have HB : Hid (Below w.heap.size w (w.alloc (.cells (pcc s c (.slice a n cap) x) 28))) := (Below.refl _ _).alloc (Nat.le_refl _) _
  have H0 : Hid (Bk (w.alloc (.cells (pcc s c (.slice a n cap) x) 28)) w.heap.size (pcc s c (.slice a n cap) x) 28) := Bk.new _ _ _
  simp only [pcv, pcc] at *
  go_enter Try.func15, Try.ntmps15
  go_wp2_with fail
  go_at_call 30
  with_reducible refine CA.mono ?_
  rintro e w1 ⟨rfl, hb1⟩
  have K0 : Hid (Bk w1 w.heap.size (pcc s c (.slice a n cap) x) 28) := H0.out.next hb1
  have KB : Hid (Below w.heap.size w w1) := HB.out.trans (hb1.mono HB.out.size)
  have hz : w.heap.size + 1 ≤ w1.heap.size := by have := hb1.size; simp at this; omega
  clear HB H0 hb1 CA
  obtain ⟨h, hh⟩ : ∃ h, hasB c n = h := ⟨_, rfl⟩
  rw [hh] at HG HN0 ⊢
  clear hh
  cases h with
  | false =>
    have e9 : r = false := HN0.out rfl
    subst e9
    go_wp2
    go_ret
    exact ⟨rfl, KB.out⟩
  | true =>
    have c2 : w1.cell? ⟨w.heap.size, 2, none⟩ = some (.slice a n cap) := K0.out.cell 2
    go_wp2_with fail
    clear c2
    go_loopw [10] (fun i wr => ∃ k : Nat, k ≤ n ∧ i = .int .i64 k ∧ (∀ j, j < k → (hdF ⟨s, c, hs, x⟩ j).rightB = true) ∧ Bk wr w.heap.size (pcc s c (.slice a n cap) x) 28 ∧ Below w.heap.size w wr ∧ w.heap.size + 1 ≤ wr.heap.size) (fun i _ => n - (RowKit.intOf i).toNat)
    case atStart => exact ⟨0, Nat.zero_le _, rfl, fun j hj => absurd hj (Nat.not_lt_zero _), K0.out, KB.out, hz⟩
    case round =>
      obtain ⟨k, hk, rfl, hs1, h0, hb, hsz⟩ := hrel
      have HS : Hid (∀ j, j < k → (hdF ⟨s, c, hs, x⟩ j).rightB = true) := hs1
      have HB : Hid (Below w.heap.size w wr) := hb
      have H0 : Hid (Bk wr w.heap.size (pcc s c (.slice a n cap) x) 28) := h0
      have c0 : wr.cell? ⟨w.heap.size, 0, none⟩ = some (.int .i64 s) := h0.cell 0
      have c1 : wr.cell? ⟨w.heap.size, 1, none⟩ = some (.bool c) := h0.cell 1
      have c2 : wr.cell? ⟨w.heap.size, 2, none⟩ = some (.slice a n cap) := h0.cell 2
      have c3 : wr.cell? ⟨w.heap.size, 3, none⟩ = some (.string x) := h0.cell 3
      clear hs1 h0 hb K0 KB hz
      by_cases hlt : k < n
      · have e1 : (k : Int) < n := by omega
        have e0 : (0 : Int) ≤ k := by omega
        have HC := CH.out k hlt wr HB.out
        have HDk := HD.out k hlt
        have HSk : Hid ((hdF ⟨s, c, hs, x⟩ k).rightB = true → ∀ j, j < k + 1 → (hdF ⟨s, c, hs, x⟩ j).rightB = true) := show _ from fun h j hj => by
          rcases Nat.lt_or_ge j k with h' | h'
          · exact HS.out j h'
          · obtain rfl : j = k := by omega
            exact h
        have FR := fun w => fright_any (hdF ⟨s, c, hs, x⟩ k) w
        obtain ⟨F, hF⟩ : ∃ F, hdF ⟨s, c, hs, x⟩ k = F := ⟨_, rfl⟩
        rw [hF] at HC HDk HSk FR
        clear hF
        obtain ⟨fk, fs, fd, fq, fl, fm, fc, fx⟩ := F
        simp only [flv, flc] at HC FR
        obtain ⟨b, hb⟩ : ∃ b, Fl.rightB ⟨fk, fs, fd, fq, fl, fm, fc, fx⟩ = b := ⟨_, rfl⟩
        rw [hb] at HDk HSk FR
        clear hb CH HD HS HG HN0
        go_wp2_with fail
        go_at_call 28
        with_reducible refine HC.mono ?_
        rintro e wa ⟨rfl, hba⟩
        have FR' := FR wa
        clear FR HC
        go_wp2_with fail
        go_at_call 31
        with_reducible refine FR'.mono ?_
        rintro e wc ⟨rfl, hbc⟩
        have XB : Hid (Below w.heap.size w wc) := (HB.out.trans (hba.mono HB.out.size)).trans (hbc.mono (Nat.le_trans HB.out.size hba.size))
        have X0 : Hid (Bk wc w.heap.size (pcc s c (.slice a n cap) x) 28) := (H0.out.next hba).next hbc
        have XS : Hid (w.heap.size + 1 ≤ wc.heap.size) := Nat.le_trans hsz (Nat.le_trans hba.size hbc.size)
        clear hba hbc HB H0 c0 c1 c2 c3 FR'
        cases b with
        | false =>
          have e9 : r = false := HDk rfl
          subst e9
          go_wp2
          go_ret
          exact ⟨rfl, XB.out⟩
        | true =>
          go_wp2
          go_roundw
          case rel => exact ⟨k + 1, by omega, by go_num, by first | exact HSk.out rfl | exact HSk.out trivial, X0.out, XB.out, XS.out⟩
          case measure => simp [RowKit.intOf]; omega
      · obtain rfl : k = n := by omega
        have e1 : ¬ (k : Int) < (k : Int) := by omega
        have e9 : r = true := by first | exact HG.out rfl HS.out | exact HG.out trivial HS.out
        subst e9
        go_wp2
        go_ret
        exact ⟨rfl, HB.out⟩
end Go.Proofs.Ytnhfoojnokiboaa
