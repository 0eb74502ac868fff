/-
  The walk of the closure that writes a word.
  The walks of hasHeads, of head, and of the program's Right.
  The walk of the program's Words.
-/
import Derived.Test.YtoejpngdkcnnhaaGreatGoodR
import Derived.Test.YtoejpngdkcnnhaaGreatCut

namespace Go.Proofs.YtoejpngdkcnnhaaGreat
open Go.RowKit

/-- A flit's word, by the program's Write. -/
theorem fwc {f : Fl} (h : f.rightB = true) (w : World) : Calls Tryz.prog 48 #[flv f] w fun e w' => e = .returned (.tuple #[.int .u64 ((f.word : Nat) : Int), .int .i64 0]) ∧ Below w.heap.size w w' := by
  have := fwrite_any f w
  have e : f.wordR = (f.word, 0) := by unfold Fl.wordR; rw [if_pos h]
  rw [e] at this
  exact this
/-- One word more stands in the row that the closure's cell holds. -/
def WPost (b B : Nat) (w : World) (L : List Value) (W : Nat) (e : Ending) (w' : World) : Prop :=
  e = .returned (.tuple #[]) ∧ ∃ v', Bk w' b #[v'] 30 ∧ Own 46 w' B v' (L ++ [.int .u64 (W : Int)]) ∧ Below b w w' ∧ B ≤ w'.heap.size

set_option maxRecDepth 100000 in
set_option maxHeartbeats 4000000 in
theorem wcl_any (f : Fl) (hf : f.rightB = true) (b B : Nat) (w : World) (v : Value) (L : List Value) (hbk : Bk w b #[v] 30) (hO : Own 46 w B v L) (hL : L.length ≤ 100000) (hbB : b < B) (hB : B ≤ w.heap.size) :
    Calls Tryz.prog 47 #[flv f, .pointer (some ⟨b, 0, none⟩)] w (WPost b B w L f.word) := by
  obtain ⟨i0, ki, hz0, hz1, hz2⟩ := info_parts Tryz.info46
  have CW := fwc hf (w.alloc (.cells (flc f) 87))
  obtain ⟨W, hW⟩ : ∃ W, f.word = W := ⟨_, rfl⟩
  rw [hW] at CW ⊢
  clear hW hf
  have A1 : Hid (Below w.heap.size w (w.alloc (.cells (flc f) 87))) := (Below.refl _ _).alloc (Nat.le_refl _) _
  have HK : Hid (Bk w b #[v] 30) := hbk
  have HO : Hid (Own 46 w B v L) := hO
  clear hbk hO
  obtain ⟨fk, fs, fd, fq, fl, fm, fc, fx⟩ := f
  simp only [flv, flc] at *
  go_enter Tryz.func47, Tryz.ntmps47
  go_wp2_with fail
  go_at_call 48
  with_reducible refine CW.mono ?_
  rintro e wa ⟨rfl, hba⟩
  have B1 : Below w.heap.size w wa := A1.out.trans (hba.mono A1.out.size)
  have bk : Bk wa b #[v] 30 := HK.out.next B1
  have ow : Own 46 wa B v L := own_next HO.out B1
  have c0 : wa.cell? ⟨b, 0, none⟩ = some v := bk.cell 0
  have hB2 : B ≤ wa.heap.size := Nat.le_trans hB B1.size
  have hll : L.length ≤ 1000000 := by omega
  have HB : Hid (Below b w wa) := B1.mono (by omega)
  have HK2 : Hid (Bk wa b #[v] 30) := bk
  clear hba B1 A1 HK HO CW bk hB
  go_wp2_with (at_builtin; go_loud (refine wpList_app_one rfl (.tmp 10) (.tmp 12) 30 46 i0 (.int .u64 0) 8 rfl Tryz.underlying30 ki hz0 hz1 hz2 rfl (by decide) B wa v L (.int .u64 ((W : Nat) : Int)) rfl ow rfl rfl hll hB2 ?_; intro v1' wb o1 kb; obtain ⟨ra, za, rfl, -, -, -⟩ := o1.rd; have bb : Bk wb b #[v] 30 := kb.2.2.2 _ _ _ _ (show 30 ≠ 46 by decide) HK2.out; have f0 : wb.frozen? ⟨b, 0, none⟩ = false := bb.free 0; have d0 : wb.cell? ⟨b, 0, none⟩ = some v := bb.cell 0; have HB3 : Hid (Below b wa wb) := (kb.2.1 _ (Below.refl _ _)).mono (Nat.le_of_lt hbB); have HS3 : Hid (wa.heap.size ≤ wb.heap.size) := kb.1; have HK3 : Hid (Bk wb b #[v] 30) := bb; clear kb bb ow))
  refine bodyPost_ret (results_none rfl _ _ _) rfl ⟨rfl, .slice ra (L ++ [Value.int .u64 (W : Int)]).length za, ?_, ?_, ?_, ?_⟩
  · have := HK3.out.set 0 (.slice ra (L ++ [Value.int .u64 (W : Int)]).length za)
    simpa using this
  · exact OwnK.far (k := 1) o1 hbB
  · exact (HB.out.trans HB3.out).setCell (Nat.le_refl _) _
  · have : wa.heap.size ≤ wb.heap.size := HS3.out
    simp
    omega
end Go.Proofs.YtoejpngdkcnnhaaGreat

namespace Go.Proofs.YtoejpngdkcnnhaaGreat
open Go.RowKit

/-- As many Heads as there may be. -/
def hasB (c : Bool) (n : Nat) : Bool := if c = true then decide (1 ≤ n ∧ n ≤ 4096) else decide (n = 1)
theorem hasB_iff (c : Bool) (n : Nat) : hasB c n = true ↔ 1 ≤ n ∧ n ≤ 4096 ∧ (c = true ∨ n = 1) := by
  unfold hasB
  cases c
  · simp; omega
  · simp

theorem has_any (s : Int) (c : Bool) (a : Option Addr) (n cap : Nat) (x : ByteArray) (w : World) :
    Calls Tryz.prog 66 #[pcv s c (.slice a n cap) x] w fun e w' => e = .returned (.bool (hasB c n)) ∧ Below w.heap.size w w' := by
  obtain ⟨r, hr⟩ : ∃ r, hasB c n = r := ⟨_, rfl⟩
  have HR : Hid (hasB c n = r) := hr
  rw [hr]
  clear hr
  have HB : Hid (Below w.heap.size w (w.alloc (.cells (pcc s c (.slice a n cap) x) 42))) := (Below.refl _ _).alloc (Nat.le_refl _) _
  simp only [pcv, pcc] at *
  cases c with
  | true =>
    by_cases h1 : (1 : Int) ≤ (n : Int)
    case neg =>
      have e9 : r = false := by rw [← HR.out]; unfold hasB; rw [if_pos rfl]; exact decide_eq_false (by omega)
      subst e9
      go_enter Tryz.func66, Tryz.ntmps66
      go_wp2
      go_ret
      exact ⟨rfl, HB.out⟩
    by_cases h2 : (n : Int) ≤ 4096
    · have e9 : r = true := by rw [← HR.out]; unfold hasB; rw [if_pos rfl]; exact decide_eq_true (by omega)
      subst e9
      go_enter Tryz.func66, Tryz.ntmps66
      go_wp2
      go_ret
      exact ⟨rfl, HB.out⟩
    · have e9 : r = false := by rw [← HR.out]; unfold hasB; rw [if_pos rfl]; exact decide_eq_false (by omega)
      subst e9
      go_enter Tryz.func66, Tryz.ntmps66
      go_wp2
      go_ret
      exact ⟨rfl, HB.out⟩
  | false =>
    by_cases h1 : (n : Int) = 1
    · have hb1 : ((n : Int) == 1) = true := by simp [h1]
      have e9 : r = true := by rw [← HR.out]; unfold hasB; rw [if_neg (by simp)]; exact decide_eq_true (by omega)
      subst e9
      go_enter Tryz.func66, Tryz.ntmps66
      go_wp2
      go_ret
      exact ⟨rfl, HB.out⟩
    · have hb1 : ((n : Int) == 1) = false := by simp [h1]
      have e9 : r = false := by rw [← HR.out]; unfold hasB; rw [if_neg (by simp)]; exact decide_eq_false (by omega)
      subst e9
      go_enter Tryz.func66, Tryz.ntmps66
      go_wp2
      go_ret
      exact ⟨rfl, HB.out⟩

set_option maxRecDepth 100000 in
set_option maxHeartbeats 4000000 in
theorem chead_any (s : Int) (c : Bool) (a : Option Addr) (cap : Nat) (x : ByteArray) (hs : List (Int × Int)) (k : Nat) (w : World) (hl : hs.length ≤ 1000000) (_hx : x.size ≤ maxLen) (hr : Rd w a (pc hs)) (hk : k < hs.length) :
    Calls Tryz.prog 49 #[pcv s c (.slice a hs.length cap) x, .int .i64 k] w fun e w' => e = .returned (flv (hdF ⟨s, c, hs, x⟩ k)) ∧ Below w.heap.size w w' := by
  obtain ⟨g, o, rfl, hg, c3, c4⟩ := hr.pair (k := k) hk
  simp only [flv, flc, hdF]
  generalize (hs.getD k (0, 0)).1 = p at *
  generalize (hs.getD k (0, 0)).2 = q at *
  obtain ⟨n, hn⟩ : ∃ n, hs.length = n := ⟨_, rfl⟩
  rw [hn] at hl hk ⊢
  clear hr hn
  obtain ⟨M, hM⟩ : ∃ M, decide (k + 1 < n) = M := ⟨_, rfl⟩
  rw [hM]
  have f0 : (0 : Int) ≤ (k : Int) := by omega
  have f1 : (k : Int) < (n : Int) := by omega
  have B2 : Hid (∀ b, Below w.heap.size w (((w.alloc (.cells (pcc s c (.slice (some ⟨g, o, none⟩) n cap) x) 42)).alloc (.cells #[.int .i64 1, .int .i64 s, .int .i64 p, .int .i64 q, .int .i64 (x.size : Int), .bool b, .bool c, .string ByteArray.empty] 87)).alloc (.cells #[.int .i64 p, .int .i64 q] 59))) := show _ from fun b => (((Below.refl _ _).alloc (Nat.le_refl _) _).alloc (by simp) _).alloc (by simp; omega) _
  have hwr : IntKind.i64.wrap ((n : Int) - 1) = (n : Int) - 1 := by first | exact IntWalk.i64_in _ (by omega) | (rw [IntKind.wrap_i64]; omega)
  simp only [pcv, pcc] at *
  by_cases h1 : k + 1 < n
  · have e9 : M = true := by rw [← hM]; exact decide_eq_true h1
    subst e9
    clear hM
    have f2 : (k : Int) < (n : Int) - 1 := by omega
    go_enter Tryz.func49, Tryz.ntmps49
    go_wp2
    refine bodyPost_ret (v := .agg #[.int .i64 1, .int .i64 s, .int .i64 p, .int .i64 q, .int .i64 (x.size : Int), .bool true, .bool c, .string ByteArray.empty]) (by simp [results, Tryz.results49, go_sem]; try rfl) rfl ⟨rfl, B2.out _⟩
  · have e9 : M = false := by rw [← hM]; exact decide_eq_false h1
    subst e9
    clear hM
    have f2 : ¬ (k : Int) < (n : Int) - 1 := by omega
    go_enter Tryz.func49, Tryz.ntmps49
    go_wp2
    refine bodyPost_ret (v := .agg #[.int .i64 1, .int .i64 s, .int .i64 p, .int .i64 q, .int .i64 (x.size : Int), .bool false, .bool c, .string ByteArray.empty]) (by simp [results, Tryz.results49, go_sem]; try rfl) rfl ⟨rfl, B2.out _⟩

/-- A Head that may be, in a parcel that has no more than may be. -/
theorem hd_bad {p : Pc} {k : Nat} (hk : k < p.hs.length) (h : (hdF p k).rightB = false) : p.okB = false := by
  rw [← Bool.not_eq_true]
  intro h2
  rw [hd_right h2 hk] at h
  cases h
theorem hd_good {p : Pc} (h0 : hasB p.c p.hs.length = true) (h : ∀ k, k < p.hs.length → (hdF p k).rightB = true) : p.okB = true := by
  obtain ⟨a1, a2, a3⟩ := (hasB_iff _ _).1 h0
  have hh : ∀ k, k < p.hs.length → (0 ≤ p.s ∧ p.s ≤ 4095) ∧ p.x.size ≤ 64 ∧ headOk (p.hs.getD k (0, 0)) = true := fun k hk => by
    have h1 := h k hk
    have e : (hdF p k).k = 1 := rfl
    rw [fl_right_one e, head_iff, Bool.and_eq_true, decide_eq_true_eq] at h1
    obtain ⟨⟨b1, b2, b3, b4, b5, b6, b7, b8⟩, _⟩ := h1
    refine ⟨⟨b1, b2⟩, ?_, (headOk_iff _).2 ⟨b3, b4, b5, b6⟩⟩
    have : ((p.x.size : Nat) : Int) ≤ 64 := b8
    omega
  rw [ok_iff]
  exact ⟨(hh 0 (by omega)).1, ⟨a1, a2, a3⟩, (hh 0 (by omega)).2.1, all_heads fun j hj => (hh j hj).2.2⟩

set_option maxRecDepth 100000 in
set_option maxHeartbeats 4000000 in
theorem cok_any (s : Int) (c : Bool) (a : Option Addr) (cap : Nat) (x : ByteArray) (hs : List (Int × Int)) (w : World) (hl : hs.length ≤ 1000000) (hx : x.size ≤ maxLen) (hr : Rd w a (pc hs)) :
    Calls Tryz.prog 46 #[pcv s c (.slice a hs.length cap) x] w fun e w' => e = .returned (.bool (Pc.okB ⟨s, c, hs, x⟩)) ∧ Below w.heap.size w w' := by
  obtain ⟨r, hk⟩ : ∃ r, Pc.okB ⟨s, c, hs, x⟩ = r := ⟨_, rfl⟩
  have HK : Hid (Pc.okB ⟨s, c, hs, x⟩ = r) := hk
  rw [hk]
  clear hk
  have HR : Hid (Rd w a (pc hs)) := hr
  have CH : Hid (∀ k, k < hs.length → ∀ w', Below w.heap.size w w' → Calls Tryz.prog 49 #[pcv s c (.slice a hs.length cap) x, .int .i64 k] w' fun e w2 => e = .returned (flv (hdF ⟨s, c, hs, x⟩ k)) ∧ Below w'.heap.size w' w2) := show _ from fun k hk w' hb => chead_any s c a cap x hs k w' hl hx (hr.below hb) hk
  have HG : Hid (hasB c hs.length = true → (∀ k, k < hs.length → (hdF ⟨s, c, hs, x⟩ k).rightB = true) → r = true) := show _ from fun h1 h2 => by rw [← HK.out]; exact hd_good h1 h2
  have HD : Hid (∀ k, k < hs.length → (hdF ⟨s, c, hs, x⟩ k).rightB = false → r = false) := show _ from fun k h1 h2 => by rw [← HK.out]; exact hd_bad (p := ⟨s, c, hs, x⟩) h1 h2
  have HN0 : Hid (hasB c hs.length = false → r = false) := show _ from fun h => by
    rw [← HK.out, ← Bool.not_eq_true]
    intro h2
    have := (hasB_iff c hs.length).2 ((ok_iff _).1 h2).2.1
    rw [h] at this
    cases this
  obtain ⟨n, hn⟩ : ∃ n, hs.length = n := ⟨_, rfl⟩
  rw [hn] at hl CH HG HD HN0 ⊢
  clear hr hn HK
  have CA := has_any s c a n cap x (w.alloc (.cells (pcc s c (.slice a n cap) x) 42))
  have HB : Hid (Below w.heap.size w (w.alloc (.cells (pcc s c (.slice a n cap) x) 42))) := (Below.refl _ _).alloc (Nat.le_refl _) _
  have H0 : Hid (Bk (w.alloc (.cells (pcc s c (.slice a n cap) x) 42)) w.heap.size (pcc s c (.slice a n cap) x) 42) := Bk.new _ _ _
  simp only [pcv, pcc] at *
  go_enter Tryz.func46, Tryz.ntmps46
  go_wp2_with fail
  go_at_call 66
  with_reducible refine CA.mono ?_
  rintro e w1 ⟨rfl, hb1⟩
  have K0 : Hid (Bk w1 w.heap.size (pcc s c (.slice a n cap) x) 42) := H0.out.next hb1
  have KB : Hid (Below w.heap.size w w1) := HB.out.trans (hb1.mono HB.out.size)
  have hz : w.heap.size + 1 ≤ w1.heap.size := by have := hb1.size; simp at this; omega
  clear HB H0 hb1 CA
  obtain ⟨h, hh⟩ : ∃ h, hasB c n = h := ⟨_, rfl⟩
  rw [hh] at HG HN0 ⊢
  clear hh
  cases h with
  | false =>
    have e9 : r = false := HN0.out rfl
    subst e9
    go_wp2
    go_ret
    exact ⟨rfl, KB.out⟩
  | true =>
    have c2 : w1.cell? ⟨w.heap.size, 2, none⟩ = some (.slice a n cap) := K0.out.cell 2
    go_wp2_with fail
    clear c2
    go_loopw [10] (fun i wr => ∃ k : Nat, k ≤ n ∧ i = .int .i64 k ∧ (∀ j, j < k → (hdF ⟨s, c, hs, x⟩ j).rightB = true) ∧ Bk wr w.heap.size (pcc s c (.slice a n cap) x) 42 ∧ Below w.heap.size w wr ∧ w.heap.size + 1 ≤ wr.heap.size) (fun i _ => n - (RowKit.intOf i).toNat)
    case atStart => exact ⟨0, Nat.zero_le _, rfl, fun j hj => absurd hj (Nat.not_lt_zero _), K0.out, KB.out, hz⟩
    case round =>
      obtain ⟨k, hk, rfl, hs1, h0, hb, hsz⟩ := hrel
      have HS : Hid (∀ j, j < k → (hdF ⟨s, c, hs, x⟩ j).rightB = true) := hs1
      have HB : Hid (Below w.heap.size w wr) := hb
      have H0 : Hid (Bk wr w.heap.size (pcc s c (.slice a n cap) x) 42) := h0
      have c0 : wr.cell? ⟨w.heap.size, 0, none⟩ = some (.int .i64 s) := h0.cell 0
      have c1 : wr.cell? ⟨w.heap.size, 1, none⟩ = some (.bool c) := h0.cell 1
      have c2 : wr.cell? ⟨w.heap.size, 2, none⟩ = some (.slice a n cap) := h0.cell 2
      have c3 : wr.cell? ⟨w.heap.size, 3, none⟩ = some (.string x) := h0.cell 3
      clear hs1 h0 hb K0 KB hz
      by_cases hlt : k < n
      · have e1 : (k : Int) < n := by omega
        have e0 : (0 : Int) ≤ k := by omega
        have HC := CH.out k hlt wr HB.out
        have HDk := HD.out k hlt
        have HSk : Hid ((hdF ⟨s, c, hs, x⟩ k).rightB = true → ∀ j, j < k + 1 → (hdF ⟨s, c, hs, x⟩ j).rightB = true) := show _ from fun h j hj => by
          rcases Nat.lt_or_ge j k with h' | h'
          · exact HS.out j h'
          · obtain rfl : j = k := by omega
            exact h
        have FR := fun w => fright_any (hdF ⟨s, c, hs, x⟩ k) w
        obtain ⟨F, hF⟩ : ∃ F, hdF ⟨s, c, hs, x⟩ k = F := ⟨_, rfl⟩
        rw [hF] at HC HDk HSk FR
        clear hF
        obtain ⟨fk, fs, fd, fq, fl, fm, fc, fx⟩ := F
        simp only [flv, flc] at HC FR
        obtain ⟨b, hb⟩ : ∃ b, Fl.rightB ⟨fk, fs, fd, fq, fl, fm, fc, fx⟩ = b := ⟨_, rfl⟩
        rw [hb] at HDk HSk FR
        clear hb CH HD HS HG HN0
        go_wp2_with fail
        go_at_call 49
        with_reducible refine HC.mono ?_
        rintro e wa ⟨rfl, hba⟩
        have FR' := FR wa
        clear FR HC
        go_wp2_with fail
        go_at_call 67
        with_reducible refine FR'.mono ?_
        rintro e wc ⟨rfl, hbc⟩
        have XB : Hid (Below w.heap.size w wc) := (HB.out.trans (hba.mono HB.out.size)).trans (hbc.mono (Nat.le_trans HB.out.size hba.size))
        have X0 : Hid (Bk wc w.heap.size (pcc s c (.slice a n cap) x) 42) := (H0.out.next hba).next hbc
        have XS : Hid (w.heap.size + 1 ≤ wc.heap.size) := Nat.le_trans hsz (Nat.le_trans hba.size hbc.size)
        clear hba hbc HB H0 c0 c1 c2 c3 FR'
        cases b with
        | false =>
          have e9 : r = false := HDk rfl
          subst e9
          go_wp2
          go_ret
          exact ⟨rfl, XB.out⟩
        | true =>
          go_wp2
          go_roundw
          case rel => exact ⟨k + 1, by omega, by go_num, by first | exact HSk.out rfl | exact HSk.out trivial, X0.out, XB.out, XS.out⟩
          case measure => simp [RowKit.intOf]; omega
      · obtain rfl : k = n := by omega
        have e1 : ¬ (k : Int) < (k : Int) := by omega
        have e9 : r = true := by first | exact HG.out rfl HS.out | exact HG.out trivial HS.out
        subst e9
        go_wp2
        go_ret
        exact ⟨rfl, HB.out⟩
end Go.Proofs.YtoejpngdkcnnhaaGreat

namespace Go.Proofs.YtoejpngdkcnnhaaGreat
open Go.RowKit

set_option maxRecDepth 100000 in
set_option maxHeartbeats 16000000 in
theorem cwords_ok (s : Int) (c : Bool) (a : Option Addr) (cap : Nat) (x : ByteArray) (hs : List (Int × Int)) (w : World) (hok : Pc.okB ⟨s, c, hs, x⟩ = true) (hr : Rd w a (pc hs)) :
    Calls Tryz.prog 29 #[pcv s c (.slice a hs.length cap) x] w fun e w' => ∃ a' cap', e = .returned (.tuple #[.slice a' (Pc.ws ⟨s, c, hs, x⟩).length cap', .int .i64 0]) ∧ (Pc.ws ⟨s, c, hs, x⟩).length ≤ cap' ∧ Rd w' a' (vw (Pc.ws ⟨s, c, hs, x⟩)) ∧ Below w.heap.size w w' ∧ ∀ q, a' = some q → w.heap.size ≤ q.block ∧ ∃ cs, Bk w' q.block cs 46 := by
  obtain ⟨⟨-, -⟩, ⟨-, ok2, -⟩, ok3, -⟩ := (ok_iff _).1 hok
  simp only at ok2 ok3
  have hmf := makes_func
  have CR : ∀ w', Rd w' a (pc hs) → Calls Tryz.prog 46 #[pcv s c (.slice a hs.length cap) x] w' fun e w2 => e = .returned (.bool true) ∧ Below w'.heap.size w' w2 := fun w' h => by
    have := cok_any s c a cap x hs w' (by omega) (by unfold maxLen; omega) h
    rw [hok] at this
    exact this
  have CH : Hid (∀ k, k < hs.length → ∀ w', Below w.heap.size w w' → Calls Tryz.prog 49 #[pcv s c (.slice a hs.length cap) x, .int .i64 k] w' fun e w2 => e = .returned (flv (hdF ⟨s, c, hs, x⟩ k)) ∧ Below w'.heap.size w' w2) := show _ from fun k hk w' hb => chead_any s c a cap x hs k w' (by omega) (by unfold maxLen; omega) (hr.below hb) hk
  have WH : Hid (∀ k, k < hs.length → ∀ b B w v L, Bk w b #[v] 30 → Own 46 w B v L → L.length ≤ 100000 → b < B → B ≤ w.heap.size → Calls Tryz.prog 47 #[flv (hdF ⟨s, c, hs, x⟩ k), .pointer (some ⟨b, 0, none⟩)] w (WPost b B w L (hdF ⟨s, c, hs, x⟩ k).word)) := show _ from fun k hk b B w v L => wcl_any _ (hd_right hok hk) b B w v L
  have WB : Hid (∀ j, j < nb x.size → ∀ b B w v L, Bk w b #[v] 30 → Own 46 w B v L → L.length ≤ 100000 → b < B → B ≤ w.heap.size → Calls Tryz.prog 47 #[.agg #[.int .i64 2, .int .i64 0, .int .i64 0, .int .i64 0, .int .i64 0, .bool false, .bool false, .string ((restX x j).extract 0 6)], .pointer (some ⟨b, 0, none⟩)] w (WPost b B w L (bdF x j).word)) := show _ from fun j hj b B w v L => by
    rw [restX_head]
    exact wcl_any _ (bd_right hj) b B w v L
  have WT : Hid (∀ b B w v L, Bk w b #[v] 30 → Own 46 w B v L → L.length ≤ 100000 → b < B → B ≤ w.heap.size → Calls Tryz.prog 47 #[.agg #[.int .i64 3, .int .i64 0, .int .i64 0, .int .i64 0, .int .i64 0, .bool false, .bool false, .string (restX x (nb x.size))], .pointer (some ⟨b, 0, none⟩)] w (WPost b B w L (tlF x).word)) := show _ from fun b B w v L => wcl_any _ (tl_right x) b B w v L
  have HWS : Hid (Pc.ws ⟨s, c, hs, x⟩ = (hw ⟨s, c, hs, x⟩ hs.length ++ bw x (nb x.size)) ++ [(tlF x).word]) := ws_parts _
  have HH : Hid (∀ k, vw (hw ⟨s, c, hs, x⟩ k) ++ [.int .u64 (((hdF ⟨s, c, hs, x⟩ k).word : Nat) : Int)] = vw (hw ⟨s, c, hs, x⟩ (k + 1))) := show _ from fun k => by rw [vw_snoc, hw_snoc]
  have HZ0 : Hid (hw ⟨s, c, hs, x⟩ 0 = []) := rfl
  have HLF : ∀ k, (vw (hw ⟨s, c, hs, x⟩ k)).length = k := fun k => by rw [vw_len, hw_len]
  generalize hPW : Pc.ws ⟨s, c, hs, x⟩ = WS at *
  generalize hw ⟨s, c, hs, x⟩ = HWf at *
  have CR1 := CR (w.alloc (.cells (pcc s c (.slice a hs.length cap) x) 42)) (hr.alloc _)
  obtain ⟨n, hn⟩ : ∃ n, hs.length = n := ⟨_, rfl⟩
  rw [hn] at ok2 CR1 CH WH HWS ⊢
  clear hr hn hok hPW CR
  have HB1 : Hid (Below w.heap.size w (w.alloc (.cells (pcc s c (.slice a n cap) x) 42))) := (Below.refl _ _).alloc (Nat.le_refl _) _
  have H01 : Hid (Bk (w.alloc (.cells (pcc s c (.slice a n cap) x) 42)) w.heap.size (pcc s c (.slice a n cap) x) 42) := Bk.new _ _ _
  have x1 : ¬ (64 : Int) < (x.size : Int) := by omega
  have VL : Hid (∀ k, (vw (HWf k)).length = k) := HLF
  clear HLF
  simp only [pcv, pcc] at *
  go_enter Tryz.func29, Tryz.ntmps29
  go_wp2_with fail
  go_at_call 46
  with_reducible refine CR1.mono ?_
  rintro e w2 ⟨rfl, hb2⟩
  have K0 : Hid (Bk w2 w.heap.size (pcc s c (.slice a n cap) x) 42) := H01.out.next hb2
  have KB : Hid (Below w.heap.size w w2) := HB1.out.trans (hb2.mono HB1.out.size)
  have hz : w.heap.size + 1 ≤ w2.heap.size := by have := hb2.size; simp at this; omega
  have c2 : w2.cell? ⟨w.heap.size, 2, none⟩ = some (.slice a n cap) := K0.out.cell 2
  have hz3 : w.heap.size < w2.heap.size := by omega
  clear CR1 H01 HB1 hb2
  go_wp2_with fail
  clear c2
  have KW : Hid (Bk (w2.alloc (.cells #[.slice none 0 0] 30)) w2.heap.size #[.slice none 0 0] 30) := Bk.new _ _ _
  have KP : Hid (Bk (w2.alloc (.cells #[.slice none 0 0] 30)) w.heap.size (pcc s c (.slice a n cap) x) 42) := K0.out.alloc _
  have KL : Hid (Below w.heap.size w (w2.alloc (.cells #[.slice none 0 0] 30))) := KB.out.alloc (Nat.le_of_lt hz3) _
  have KS : Hid (w2.heap.size + 1 ≤ (w2.alloc (.cells #[.slice none 0 0] 30)).heap.size) := show _ ≤ _ by simp
  have HZ : Hid (w.heap.size < w2.heap.size) := hz3
  clear K0 KB
  generalize w2.alloc (.cells #[.slice none 0 0] 30) = wy at *
  generalize w2.heap.size = b at *
  go_loopw [21] (fun i wr => ∃ (k : Nat) (v : Value), k ≤ n ∧ i = .int .i64 k ∧ Bk wr w.heap.size (pcc s c (.slice a n cap) x) 42 ∧ Bk wr b #[v] 30 ∧ Own 46 wr (b + 1) v (vw (HWf k)) ∧ Below w.heap.size w wr ∧ b + 1 ≤ wr.heap.size) (fun i _ => n - (RowKit.intOf i).toNat)
  case atStart => exact ⟨0, _, Nat.zero_le _, rfl, KP.out, KW.out, by rw [HZ0.out]; exact World.ownsRow_nil _ _ _ _, KL.out, KS.out⟩
  case round =>
    obtain ⟨k, v, hk, rfl, h0, hv, own, hb, hsz⟩ := hrel
    have HB : Hid (Below w.heap.size w wr) := hb
    have H0 : Hid (Bk wr w.heap.size (pcc s c (.slice a n cap) x) 42) := h0
    have HV : Hid (Bk wr b #[v] 30) := hv
    have HO : Hid (Own 46 wr (b + 1) v (vw (HWf k))) := own
    have c0 : wr.cell? ⟨w.heap.size, 0, none⟩ = some (.int .i64 s) := h0.cell 0
    have c1 : wr.cell? ⟨w.heap.size, 1, none⟩ = some (.bool c) := h0.cell 1
    have c2 : wr.cell? ⟨w.heap.size, 2, none⟩ = some (.slice a n cap) := h0.cell 2
    have c5 : wr.cell? ⟨w.heap.size, 3, none⟩ = some (.string x) := h0.cell 3
    clear h0 hb own hv hz hz3 KP KW KL KS
    by_cases hlt : k < n
    · have e1 : (k : Int) < (n : Int) := by omega
      have e2 : (0 : Int) ≤ (k : Int) := by omega
      have hll : (vw (HWf k)).length ≤ 100000 := by rw [VL.out]; omega
      have HC := CH.out k hlt wr HB.out
      have WC := WH.out k hlt
      have hst := HH.out k
      clear HH CH WH WB WT
      obtain ⟨F, hF⟩ : ∃ F, hdF ⟨s, c, hs, x⟩ k = F := ⟨_, rfl⟩
      rw [hF] at HC WC hst
      clear hF
      obtain ⟨W, hW⟩ : ∃ W, F.word = W := ⟨_, rfl⟩
      rw [hW] at WC hst
      clear hW
      have HST : Hid (vw (HWf k) ++ [.int .u64 (W : Int)] = vw (HWf (k + 1))) := hst
      clear hst
      generalize vw (HWf k) = L at *
      obtain ⟨fk, fs, fd, fq, fl, fm, fc, fx⟩ := F
      simp only [flv, flc] at HC WC
      go_wp2_with fail
      go_at_call 49
      with_reducible refine HC.mono ?_
      rintro e wa ⟨rfl, hba⟩
      have C2 := WC b (b + 1) wa v L (HV.out.next hba) (own_next HO.out hba) hll (Nat.lt_succ_self b) (Nat.le_trans hsz hba.size)
      have HBA : Hid (Below wr.heap.size wr wa) := hba
      clear WC HC hba c0 c1 c2 c5
      go_wp2_with fail
      go_at_call 47
      with_reducible refine C2.mono ?_
      rintro e wb ⟨rfl, v', hk', ho', hb', hs'⟩
      rw [HST.out] at ho'
      have XB : Hid (Below w.heap.size w wb) := (HB.out.trans (HBA.out.mono HB.out.size)).trans (hb'.mono (Nat.le_of_lt HZ.out))
      have X0 : Hid (Bk wb w.heap.size (pcc s c (.slice a n cap) x) 42) := (H0.out.next HBA.out).below hb' HZ.out
      have XV : Hid (Bk wb b #[v'] 30) := hk'
      have XO : Hid (Own 46 wb (b + 1) v' (vw (HWf (k + 1)))) := ho'
      have XS : Hid (b + 1 ≤ wb.heap.size) := hs'
      clear hk' ho' hb' hs' C2 HBA HB H0 HV HO
      go_wp2
      go_roundw
      case rel => exact ⟨k + 1, v', by omega, by go_num, X0.out, XV.out, XO.out, XB.out, XS.out⟩
      case measure => simp [RowKit.intOf]; omega
    · obtain rfl : k = n := by omega
      have e1 : ¬ (k : Int) < (k : Int) := by omega
      clear HH CH WH
      have WN : Hid (WS = HWf k ++ bw x (nb x.size) ++ [(tlF x).word]) := HWS.out
      have BS : Hid (∀ j, vw (HWf k ++ bw x j) ++ [.int .u64 (((bdF x j).word : Nat) : Int)] = vw (HWf k ++ bw x (j + 1))) := show _ from fun j => by rw [vw_snoc, List.append_assoc, bw_snoc]
      have LH : Hid (∀ j, (vw (HWf k ++ bw x j)).length = k + j) := show _ from fun j => by
        have := VL.out k
        rw [vw_len] at this
        rw [vw_len, List.length_append, this, bw_len]
      have O0 : Hid (Own 46 wr (b + 1) v (vw (HWf k ++ bw x 0))) := by
        rw [show bw x 0 = [] from rfl, List.append_nil]
        exact HO.out
      have NB : Hid (nb x.size ≤ 10) := show nb x.size ≤ 10 by unfold nb; omega
      clear HWS HO VL HZ0
      go_wp2_with fail
      clear c0 c1 c2 c5
      go_loopw [7] (fun r wr => ∃ (j : Nat) (v : Value), j ≤ nb x.size ∧ r = .string (restX x j) ∧ Bk wr b #[v] 30 ∧ Own 46 wr (b + 1) v (vw (HWf k ++ bw x j)) ∧ Below w.heap.size w wr ∧ b + 1 ≤ wr.heap.size) (fun r _ => lenOf r)
      case atStart => exact ⟨0, v, Nat.zero_le _, by rw [restX_zero], HV.out, O0.out, HB.out, hsz⟩
      case round =>
      obtain ⟨j, v2, hj, rfl, hv, own, hb, hsz2⟩ := hrel
      have HO2 : Hid (Own 46 _ (b + 1) v2 (vw (HWf k ++ bw x j))) := own
      have HV2 : Hid (Bk _ b #[v2] 30) := hv
      have HB2 : Hid (Below w.heap.size w _) := hb
      have hll : (vw (HWf k ++ bw x j)).length ≤ 100000 := by rw [LH.out]; have := NB.out; omega
      clear own hb hv H0 HB HV O0 hsz
      by_cases hjn : j < nb x.size
      · have h6 : 6 < (restX x j).size := nb_more.1 hjn
        have h64 : (restX x j).size ≤ 64 := by rw [restX_size]; omega
        have HRT : Hid ((restX x j).extract 6 (restX x j).size = restX x (j + 1)) := restX_tail x j
        have hcb := WB.out j hjn
        have hst := BS.out j
        clear WB WT BS WN
        generalize restX x j = R at *
        generalize (bdF x j).word = W at *
        have HST : Hid (vw (HWf k ++ bw x j) ++ [.int .u64 (W : Int)] = vw (HWf k ++ bw x (j + 1))) := hst
        clear hst
        generalize vw (HWf k ++ bw x j) = L at *
        have f1 : (6 : Int) < (R.size : Int) := by omega
        have f2 : (6 : Int) ≤ (R.size : Int) := by omega
        have f3 : 6 ≤ R.size := by omega
        have C2 := hcb b (b + 1) _ v2 L HV2.out HO2.out hll (Nat.lt_succ_self b) hsz2
        clear hcb
        go_wp2_with fail
        go_at_call 47
        with_reducible refine C2.mono ?_
        rintro e wb ⟨rfl, v', hk', ho', hb', hs'⟩
        rw [HST.out] at ho'
        have XB : Hid (Below w.heap.size w wb) := HB2.out.trans (hb'.mono (Nat.le_of_lt HZ.out))
        have XV : Hid (Bk wb b #[v'] 30) := hk'
        have XO : Hid (Own 46 wb (b + 1) v' (vw (HWf k ++ bw x (j + 1)))) := ho'
        have XS : Hid (b + 1 ≤ wb.heap.size) := hs'
        clear hk' ho' hb' hs' C2 HB2 HV2 HO2 hsz2
        go_wp2
        go_roundw
        case rel => exact ⟨j + 1, v', by omega, by rw [HRT.out], XV.out, XO.out, XB.out, XS.out⟩
        case measure =>
          simp [lenOf]
          omega
      · obtain rfl : j = nb x.size := by omega
        have h6 : (restX x (nb x.size)).size ≤ 6 := nb_end
        have hct := WT.out
        have hst : vw (HWf k ++ bw x (nb x.size)) ++ [.int .u64 (((tlF x).word : Nat) : Int)] = vw WS := by rw [vw_snoc, ← WN.out]
        clear WB WT BS WN
        generalize restX x (nb x.size) = R at *
        generalize (tlF x).word = W at *
        have HST : Hid (vw (HWf k ++ bw x (nb x.size)) ++ [.int .u64 (W : Int)] = vw WS) := hst
        clear hst
        generalize vw (HWf k ++ bw x (nb x.size)) = L at *
        have f1 : ¬ (6 : Int) < (R.size : Int) := by omega
        have C2 := hct b (b + 1) _ v2 L HV2.out HO2.out hll (Nat.lt_succ_self b) hsz2
        clear hct
        go_wp2_with fail
        go_at_call 47
        with_reducible refine C2.mono ?_
        rintro e wb ⟨rfl, v', hk', ho', hb', hs'⟩
        rw [HST.out] at ho'
        have XB : Hid (Below w.heap.size w wb) := HB2.out.trans (hb'.mono (Nat.le_of_lt HZ.out))
        obtain ⟨ra, za, rfl, hcz, _, rr⟩ := ho'.rd
        rw [vw_len] at hcz hk' ho'
        have d0 : wb.cell? ⟨b, 0, none⟩ = some (.slice ra WS.length za) := hk'.cell 0
        have RR : Hid (Rd wb ra (vw WS)) := rr
        have RQ : Hid (∀ q : Addr, ra = some q → w.heap.size ≤ q.block ∧ ∃ cs, Bk wb q.block cs 46) := show _ from fun q hq => by
          have h1 := ((show OwnK 46 1 wb (b + 1) _ _ _ from ho').lt (q := q.block) (by rw [hq]; rfl)).1
          have h2 := HZ.out
          refine ⟨by omega, ?_⟩
          rcases (show OwnK 46 1 wb (b + 1) _ _ _ from ho').2 with ⟨hn, _⟩ | ⟨g, c9, cur, e9, hB9, hh, _⟩
          · rw [hq] at hn
            cases hn
          · rw [hq] at e9
            injection e9 with e9
            injection e9 with e9
            subst e9
            exact ⟨cur, hh⟩
        clear hk' ho' hb' hs' C2 HB2 HV2 HO2 hsz2 rr
        go_wp2
        refine bodyPost_ret (v := .tuple #[.slice ra WS.length za, .int .i64 0]) (by simp [results, Tryz.results29, go_sem]) rfl ⟨ra, za, rfl, hcz, RR.out, XB.out, RQ.out⟩

set_option maxRecDepth 100000 in
set_option maxHeartbeats 1600000 in
theorem cwords_new (s : Int) (c : Bool) (a : Option Addr) (cap : Nat) (x : ByteArray) (hs : List (Int × Int)) (w : World) (hl : hs.length ≤ 1000000) (hx : x.size ≤ maxLen) (hr : Rd w a (pc hs)) :
    Calls Tryz.prog 29 #[pcv s c (.slice a hs.length cap) x] w fun e w' => ∃ a' cap', e = .returned (.tuple #[.slice a' (Pc.wordsR ⟨s, c, hs, x⟩).1.length cap', .int .i64 (Pc.wordsR ⟨s, c, hs, x⟩).2]) ∧ (Pc.wordsR ⟨s, c, hs, x⟩).1.length ≤ cap' ∧ Rd w' a' (vw (Pc.wordsR ⟨s, c, hs, x⟩).1) ∧ Below w.heap.size w w' ∧ ∀ q, a' = some q → w.heap.size ≤ q.block ∧ ∃ cs, Bk w' q.block cs 46 := by
  have RN : ∀ w', Rd w' none (vw []) := fun w' j v hj => by simp [vw] at hj
  by_cases h64 : 64 < x.size
  · rw [show Pc.wordsR ⟨s, c, hs, x⟩ = ([], 4) by unfold Pc.wordsR; rw [if_pos h64]]
    have f1 : (64 : Int) < (x.size : Int) := by omega
    simp only [pcv, pcc] at *
    go_enter Tryz.func29, Tryz.ntmps29
    go_wp2_with fail
    exact bodyPost_ret (v := .tuple #[.slice none 0 0, .int .i64 4]) (by simp [results, Tryz.results29, go_sem]) rfl ⟨none, 0, rfl, Nat.le_refl _, RN _, (Below.refl _ _).alloc (Nat.le_refl _) _, fun _ h => by cases h⟩
  by_cases hok : Pc.okB ⟨s, c, hs, x⟩ = true
  · rw [show Pc.wordsR ⟨s, c, hs, x⟩ = (Pc.ws ⟨s, c, hs, x⟩, 0) by unfold Pc.wordsR; rw [if_neg h64, if_pos hok]]
    exact cwords_ok s c a cap x hs w hok hr
  rw [show Pc.wordsR ⟨s, c, hs, x⟩ = ([], 1) by unfold Pc.wordsR; rw [if_neg h64, if_neg hok]]
  have CR : ∀ w', Rd w' a (pc hs) → Calls Tryz.prog 46 #[pcv s c (.slice a hs.length cap) x] w' fun e w2 => e = .returned (.bool false) ∧ Below w'.heap.size w' w2 := fun w' h => by
    have := cok_any s c a cap x hs w' hl hx h
    rw [show Pc.okB ⟨s, c, hs, x⟩ = false by simpa using hok] at this
    exact this
  have f1 : ¬ (64 : Int) < (x.size : Int) := by omega
  simp only [pcv, pcc] at *
  obtain ⟨n, hn⟩ : ∃ n, hs.length = n := ⟨_, rfl⟩
  rw [hn] at CR ⊢
  have HB1 : Hid (Below w.heap.size w (w.alloc (.cells #[.int .i64 s, .bool c, .slice a n cap, .string x] 42))) := (Below.refl _ _).alloc (Nat.le_refl _) _
  have CR1 := CR (w.alloc (.cells #[.int .i64 s, .bool c, .slice a n cap, .string x] 42)) (hr.alloc _)
  clear CR hr hn hok
  go_enter Tryz.func29, Tryz.ntmps29
  go_wp2_with (go_at_call 46; (with_reducible refine CR1.mono ?_); rintro e w2 ⟨rfl, hb2⟩)
  exact bodyPost_ret (v := .tuple #[.slice none 0 0, .int .i64 1]) (by simp [results, Tryz.results29, go_sem]) rfl ⟨none, 0, rfl, Nat.le_refl _, RN _, HB1.out.trans (hb2.mono HB1.out.size), fun _ h => by cases h⟩
theorem cwords_any (s : Int) (c : Bool) (a : Option Addr) (cap : Nat) (x : ByteArray) (hs : List (Int × Int)) (w : World) (hl : hs.length ≤ 1000000) (hx : x.size ≤ maxLen) (hr : Rd w a (pc hs)) :
    Calls Tryz.prog 29 #[pcv s c (.slice a hs.length cap) x] w fun e w' => ∃ a' cap', e = .returned (.tuple #[.slice a' (Pc.wordsR ⟨s, c, hs, x⟩).1.length cap', .int .i64 (Pc.wordsR ⟨s, c, hs, x⟩).2]) ∧ (Pc.wordsR ⟨s, c, hs, x⟩).1.length ≤ cap' ∧ Rd w' a' (vw (Pc.wordsR ⟨s, c, hs, x⟩).1) ∧ Below w.heap.size w w' :=
  (cwords_new s c a cap x hs w hl hx hr).mono fun _ _ ⟨a', cap', h1, h2, h3, h4, _⟩ => ⟨a', cap', h1, h2, h3, h4⟩
end Go.Proofs.YtoejpngdkcnnhaaGreat
