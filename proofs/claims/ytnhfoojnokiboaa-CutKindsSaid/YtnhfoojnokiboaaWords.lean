/-
  The walk of the program's Words.
-/
import Derived.Test.YtnhfoojnokiboaaWcl
import Derived.Test.YtnhfoojnokiboaaChas
namespace Go.Proofs.Ytnhfoojnokiboaa
open Go.RowKit

set_option maxRecDepth 100000 in
set_option maxHeartbeats 16000000 in
theorem cwords_ok (s : Int) (c : Bool) (a : Option Addr) (cap : Nat) (x : ByteArray) (hs : List (Int × Int)) (w : World) (hok : Pc.okB ⟨s, c, hs, x⟩ = true) (hr : Rd w a (pc hs)) :
    Calls Try.prog 10 #[pcv s c (.slice a hs.length cap) x] w fun e w' => ∃ a' cap', e = .returned (.tuple #[.slice a' (Pc.ws ⟨s, c, hs, x⟩).length cap', .int .i64 0]) ∧ (Pc.ws ⟨s, c, hs, x⟩).length ≤ cap' ∧ Rd w' a' (vw (Pc.ws ⟨s, c, hs, x⟩)) ∧ Below w.heap.size w w' := by
  obtain ⟨⟨-, -⟩, ⟨-, ok2, -⟩, ok3, -⟩ := (ok_iff _).1 hok
  simp only at ok2 ok3
  have hmf := makes_func
  have CR : ∀ w', Rd w' a (pc hs) → Calls Try.prog 15 #[pcv s c (.slice a hs.length cap) x] w' fun e w2 => e = .returned (.bool true) ∧ Below w'.heap.size w' w2 := fun w' h => by
    have := cok_any s c a cap x hs w' (by omega) (by unfold maxLen; omega) h
    rw [hok] at this
    exact this
  have CH : Hid (∀ k, k < hs.length → ∀ w', Below w.heap.size w w' → Calls Try.prog 28 #[pcv s c (.slice a hs.length cap) x, .int .i64 k] w' fun e w2 => e = .returned (flv (hdF ⟨s, c, hs, x⟩ k)) ∧ Below w'.heap.size w' w2) := show _ from fun k hk w' hb => chead_any s c a cap x hs k w' (by omega) (by unfold maxLen; omega) (hr.below hb) hk
  have WH : Hid (∀ k, k < hs.length → ∀ b B w v L, Bk w b #[v] 30 → Own 61 w B v L → L.length ≤ 100000 → b < B → B ≤ w.heap.size → Calls Try.prog 26 #[flv (hdF ⟨s, c, hs, x⟩ k), .pointer (some ⟨b, 0, none⟩)] w (WPost b B w L (hdF ⟨s, c, hs, x⟩ k).word)) := show _ from fun k hk b B w v L => wcl_any _ (hd_right hok hk) b B w v L
  have WB : Hid (∀ j, j < nb x.size → ∀ b B w v L, Bk w b #[v] 30 → Own 61 w B v L → L.length ≤ 100000 → b < B → B ≤ w.heap.size → Calls Try.prog 26 #[.agg #[.int .i64 2, .int .i64 0, .int .i64 0, .int .i64 0, .int .i64 0, .bool false, .bool false, .string ((restX x j).extract 0 6)], .pointer (some ⟨b, 0, none⟩)] w (WPost b B w L (bdF x j).word)) := show _ from fun j hj b B w v L => by
    rw [restX_head]
    exact wcl_any _ (bd_right hj) b B w v L
  have WT : Hid (∀ b B w v L, Bk w b #[v] 30 → Own 61 w B v L → L.length ≤ 100000 → b < B → B ≤ w.heap.size → Calls Try.prog 26 #[.agg #[.int .i64 3, .int .i64 0, .int .i64 0, .int .i64 0, .int .i64 0, .bool false, .bool false, .string (restX x (nb x.size))], .pointer (some ⟨b, 0, none⟩)] w (WPost b B w L (tlF x).word)) := show _ from fun b B w v L => wcl_any _ (tl_right x) b B w v L
  have HWS : Hid (Pc.ws ⟨s, c, hs, x⟩ = (hw ⟨s, c, hs, x⟩ hs.length ++ bw x (nb x.size)) ++ [(tlF x).word]) := ws_parts _
  have HH : Hid (∀ k, vw (hw ⟨s, c, hs, x⟩ k) ++ [.int .u64 (((hdF ⟨s, c, hs, x⟩ k).word : Nat) : Int)] = vw (hw ⟨s, c, hs, x⟩ (k + 1))) := show _ from fun k => by rw [vw_snoc, hw_snoc]
  have HZ0 : Hid (hw ⟨s, c, hs, x⟩ 0 = []) := rfl
  have HLF : ∀ k, (vw (hw ⟨s, c, hs, x⟩ k)).length = k := fun k => by rw [vw_len, hw_len]
  generalize hPW : Pc.ws ⟨s, c, hs, x⟩ = WS at *
  generalize hw ⟨s, c, hs, x⟩ = HWf at *
  have CR1 := CR (w.alloc (.cells (pcc s c (.slice a hs.length cap) x) 28)) (hr.alloc _)
  obtain ⟨n, hn⟩ : ∃ n, hs.length = n := ⟨_, rfl⟩
  rw [hn] at ok2 CR1 CH WH HWS ⊢
  clear hr hn hok hPW CR
  have HB1 : Hid (Below w.heap.size w (w.alloc (.cells (pcc s c (.slice a n cap) x) 28))) := (Below.refl _ _).alloc (Nat.le_refl _) _
  have H01 : Hid (Bk (w.alloc (.cells (pcc s c (.slice a n cap) x) 28)) w.heap.size (pcc s c (.slice a n cap) x) 28) := Bk.new _ _ _
  have x1 : ¬ (64 : Int) < (x.size : Int) := by omega
  have VL : Hid (∀ k, (vw (HWf k)).length = k) := HLF
  clear HLF
  simp only [pcv, pcc] at *
  go_enter Try.func10, Try.ntmps10
  go_wp2_with fail
  go_at_call 15
  with_reducible refine CR1.mono ?_
  rintro e w2 ⟨rfl, hb2⟩
  have K0 : Hid (Bk w2 w.heap.size (pcc s c (.slice a n cap) x) 28) := H01.out.next hb2
  have KB : Hid (Below w.heap.size w w2) := HB1.out.trans (hb2.mono HB1.out.size)
  have hz : w.heap.size + 1 ≤ w2.heap.size := by have := hb2.size; simp at this; omega
  have c2 : w2.cell? ⟨w.heap.size, 2, none⟩ = some (.slice a n cap) := K0.out.cell 2
  have hz3 : w.heap.size < w2.heap.size := by omega
  clear CR1 H01 HB1 hb2
  go_wp2_with fail
  clear c2
  have KW : Hid (Bk (w2.alloc (.cells #[.slice none 0 0] 30)) w2.heap.size #[.slice none 0 0] 30) := Bk.new _ _ _
  have KP : Hid (Bk (w2.alloc (.cells #[.slice none 0 0] 30)) w.heap.size (pcc s c (.slice a n cap) x) 28) := K0.out.alloc _
  have KL : Hid (Below w.heap.size w (w2.alloc (.cells #[.slice none 0 0] 30))) := KB.out.alloc (Nat.le_of_lt hz3) _
  have KS : Hid (w2.heap.size + 1 ≤ (w2.alloc (.cells #[.slice none 0 0] 30)).heap.size) := show _ ≤ _ by simp
  have HZ : Hid (w.heap.size < w2.heap.size) := hz3
  clear K0 KB
  generalize w2.alloc (.cells #[.slice none 0 0] 30) = wy at *
  generalize w2.heap.size = b at *
  go_loopw [21] (fun i wr => ∃ (k : Nat) (v : Value), k ≤ n ∧ i = .int .i64 k ∧ Bk wr w.heap.size (pcc s c (.slice a n cap) x) 28 ∧ Bk wr b #[v] 30 ∧ Own 61 wr (b + 1) v (vw (HWf k)) ∧ Below w.heap.size w wr ∧ b + 1 ≤ wr.heap.size) (fun i _ => n - (RowKit.intOf i).toNat)
  case atStart => exact ⟨0, _, Nat.zero_le _, rfl, KP.out, KW.out, by rw [HZ0.out]; exact World.ownsRow_nil _ _ _ _, KL.out, KS.out⟩
  case round =>
    obtain ⟨k, v, hk, rfl, h0, hv, own, hb, hsz⟩ := hrel
    have HB : Hid (Below w.heap.size w wr) := hb
    have H0 : Hid (Bk wr w.heap.size (pcc s c (.slice a n cap) x) 28) := h0
    have HV : Hid (Bk wr b #[v] 30) := hv
    have HO : Hid (Own 61 wr (b + 1) v (vw (HWf k))) := own
    have c0 : wr.cell? ⟨w.heap.size, 0, none⟩ = some (.int .i64 s) := h0.cell 0
    have c1 : wr.cell? ⟨w.heap.size, 1, none⟩ = some (.bool c) := h0.cell 1
    have c2 : wr.cell? ⟨w.heap.size, 2, none⟩ = some (.slice a n cap) := h0.cell 2
    have c5 : wr.cell? ⟨w.heap.size, 3, none⟩ = some (.string x) := h0.cell 3
    clear h0 hb own hv hz hz3 KP KW KL KS
    by_cases hlt : k < n
    · have e1 : (k : Int) < (n : Int) := by omega
      have e2 : (0 : Int) ≤ (k : Int) := by omega
      have hll : (vw (HWf k)).length ≤ 100000 := by rw [VL.out]; omega
      have HC := CH.out k hlt wr HB.out
      have WC := WH.out k hlt
      have hst := HH.out k
      clear HH CH WH WB WT
      obtain ⟨F, hF⟩ : ∃ F, hdF ⟨s, c, hs, x⟩ k = F := ⟨_, rfl⟩
      rw [hF] at HC WC hst
      clear hF
      obtain ⟨W, hW⟩ : ∃ W, F.word = W := ⟨_, rfl⟩
      rw [hW] at WC hst
      clear hW
      have HST : Hid (vw (HWf k) ++ [.int .u64 (W : Int)] = vw (HWf (k + 1))) := hst
      clear hst
      generalize vw (HWf k) = L at *
      obtain ⟨fk, fs, fd, fq, fl, fm, fc, fx⟩ := F
      simp only [flv, flc] at HC WC
      go_wp2_with fail
      go_at_call 28
      with_reducible refine HC.mono ?_
      rintro e wa ⟨rfl, hba⟩
      have C2 := WC b (b + 1) wa v L (HV.out.next hba) (own_next HO.out hba) hll (Nat.lt_succ_self b) (Nat.le_trans hsz hba.size)
      have HBA : Hid (Below wr.heap.size wr wa) := hba
      clear WC HC hba c0 c1 c2 c5
      go_wp2_with fail
      go_at_call 26
      with_reducible refine C2.mono ?_
      rintro e wb ⟨rfl, v', hk', ho', hb', hs'⟩
      rw [HST.out] at ho'
      have XB : Hid (Below w.heap.size w wb) := (HB.out.trans (HBA.out.mono HB.out.size)).trans (hb'.mono (Nat.le_of_lt HZ.out))
      have X0 : Hid (Bk wb w.heap.size (pcc s c (.slice a n cap) x) 28) := (H0.out.next HBA.out).below hb' HZ.out
      have XV : Hid (Bk wb b #[v'] 30) := hk'
      have XO : Hid (Own 61 wb (b + 1) v' (vw (HWf (k + 1)))) := ho'
      have XS : Hid (b + 1 ≤ wb.heap.size) := hs'
      clear hk' ho' hb' hs' C2 HBA HB H0 HV HO
      go_wp2
      go_roundw
      case rel => exact ⟨k + 1, v', by omega, by go_num, X0.out, XV.out, XO.out, XB.out, XS.out⟩
      case measure => simp [RowKit.intOf]; omega
    · obtain rfl : k = n := by omega
      have e1 : ¬ (k : Int) < (k : Int) := by omega
      clear HH CH WH
      have WN : Hid (WS = HWf k ++ bw x (nb x.size) ++ [(tlF x).word]) := HWS.out
      have BS : Hid (∀ j, vw (HWf k ++ bw x j) ++ [.int .u64 (((bdF x j).word : Nat) : Int)] = vw (HWf k ++ bw x (j + 1))) := show _ from fun j => by rw [vw_snoc, List.append_assoc, bw_snoc]
      have LH : Hid (∀ j, (vw (HWf k ++ bw x j)).length = k + j) := show _ from fun j => by
        have := VL.out k
        rw [vw_len] at this
        rw [vw_len, List.length_append, this, bw_len]
      have O0 : Hid (Own 61 wr (b + 1) v (vw (HWf k ++ bw x 0))) := by
        rw [show bw x 0 = [] from rfl, List.append_nil]
        exact HO.out
      have NB : Hid (nb x.size ≤ 10) := show nb x.size ≤ 10 by unfold nb; omega
      clear HWS HO VL HZ0
      go_wp2_with fail
      clear c0 c1 c2 c5
      go_loopw [7] (fun r wr => ∃ (j : Nat) (v : Value), j ≤ nb x.size ∧ r = .string (restX x j) ∧ Bk wr b #[v] 30 ∧ Own 61 wr (b + 1) v (vw (HWf k ++ bw x j)) ∧ Below w.heap.size w wr ∧ b + 1 ≤ wr.heap.size) (fun r _ => lenOf r)
      case atStart => exact ⟨0, v, Nat.zero_le _, by rw [restX_zero], HV.out, O0.out, HB.out, hsz⟩
      case round =>
      obtain ⟨j, v2, hj, rfl, hv, own, hb, hsz2⟩ := hrel
      have HO2 : Hid (Own 61 _ (b + 1) v2 (vw (HWf k ++ bw x j))) := own
      have HV2 : Hid (Bk _ b #[v2] 30) := hv
      have HB2 : Hid (Below w.heap.size w _) := hb
      have hll : (vw (HWf k ++ bw x j)).length ≤ 100000 := by rw [LH.out]; have := NB.out; omega
      clear own hb hv H0 HB HV O0 hsz
      by_cases hjn : j < nb x.size
      · have h6 : 6 < (restX x j).size := nb_more.1 hjn
        have h64 : (restX x j).size ≤ 64 := by rw [restX_size]; omega
        have HRT : Hid ((restX x j).extract 6 (restX x j).size = restX x (j + 1)) := restX_tail x j
        have hcb := WB.out j hjn
        have hst := BS.out j
        clear WB WT BS WN
        generalize restX x j = R at *
        generalize (bdF x j).word = W at *
        have HST : Hid (vw (HWf k ++ bw x j) ++ [.int .u64 (W : Int)] = vw (HWf k ++ bw x (j + 1))) := hst
        clear hst
        generalize vw (HWf k ++ bw x j) = L at *
        have f1 : (6 : Int) < (R.size : Int) := by omega
        have f2 : (6 : Int) ≤ (R.size : Int) := by omega
        have f3 : 6 ≤ R.size := by omega
        have C2 := hcb b (b + 1) _ v2 L HV2.out HO2.out hll (Nat.lt_succ_self b) hsz2
        clear hcb
        go_wp2_with fail
        go_at_call 26
        with_reducible refine C2.mono ?_
        rintro e wb ⟨rfl, v', hk', ho', hb', hs'⟩
        rw [HST.out] at ho'
        have XB : Hid (Below w.heap.size w wb) := HB2.out.trans (hb'.mono (Nat.le_of_lt HZ.out))
        have XV : Hid (Bk wb b #[v'] 30) := hk'
        have XO : Hid (Own 61 wb (b + 1) v' (vw (HWf k ++ bw x (j + 1)))) := ho'
        have XS : Hid (b + 1 ≤ wb.heap.size) := hs'
        clear hk' ho' hb' hs' C2 HB2 HV2 HO2 hsz2
        go_wp2
        go_roundw
        case rel => exact ⟨j + 1, v', by omega, by rw [HRT.out], XV.out, XO.out, XB.out, XS.out⟩
        case measure =>
          simp [lenOf]
          omega
      · obtain rfl : j = nb x.size := by omega
        have h6 : (restX x (nb x.size)).size ≤ 6 := nb_end
        have hct := WT.out
        have hst : vw (HWf k ++ bw x (nb x.size)) ++ [.int .u64 (((tlF x).word : Nat) : Int)] = vw WS := by rw [vw_snoc, ← WN.out]
        clear WB WT BS WN
        generalize restX x (nb x.size) = R at *
        generalize (tlF x).word = W at *
        have HST : Hid (vw (HWf k ++ bw x (nb x.size)) ++ [.int .u64 (W : Int)] = vw WS) := hst
        clear hst
        generalize vw (HWf k ++ bw x (nb x.size)) = L at *
        have f1 : ¬ (6 : Int) < (R.size : Int) := by omega
        have C2 := hct b (b + 1) _ v2 L HV2.out HO2.out hll (Nat.lt_succ_self b) hsz2
        clear hct
        go_wp2_with fail
        go_at_call 26
        with_reducible refine C2.mono ?_
        rintro e wb ⟨rfl, v', hk', ho', hb', hs'⟩
        rw [HST.out] at ho'
        have XB : Hid (Below w.heap.size w wb) := HB2.out.trans (hb'.mono (Nat.le_of_lt HZ.out))
        obtain ⟨ra, za, rfl, hcz, _, rr⟩ := ho'.rd
        rw [vw_len] at hcz hk' ho'
        have d0 : wb.cell? ⟨b, 0, none⟩ = some (.slice ra WS.length za) := hk'.cell 0
        have RR : Hid (Rd wb ra (vw WS)) := rr
        clear hk' ho' hb' hs' C2 HB2 HV2 HO2 hsz2 rr
        go_wp2
        refine bodyPost_ret (v := .tuple #[.slice ra WS.length za, .int .i64 0]) (by simp [results, Try.results10, go_sem]) rfl ⟨ra, za, rfl, hcz, RR.out, XB.out⟩

set_option maxRecDepth 100000 in
set_option maxHeartbeats 1600000 in
theorem cwords_any (s : Int) (c : Bool) (a : Option Addr) (cap : Nat) (x : ByteArray) (hs : List (Int × Int)) (w : World) (hl : hs.length ≤ 1000000) (hx : x.size ≤ maxLen) (hr : Rd w a (pc hs)) :
    Calls Try.prog 10 #[pcv s c (.slice a hs.length cap) x] w fun e w' => ∃ a' cap', e = .returned (.tuple #[.slice a' (Pc.wordsR ⟨s, c, hs, x⟩).1.length cap', .int .i64 (Pc.wordsR ⟨s, c, hs, x⟩).2]) ∧ (Pc.wordsR ⟨s, c, hs, x⟩).1.length ≤ cap' ∧ Rd w' a' (vw (Pc.wordsR ⟨s, c, hs, x⟩).1) ∧ Below w.heap.size w w' := by
  have RN : ∀ w', Rd w' none (vw []) := fun w' j v hj => by simp [vw] at hj
  by_cases h64 : 64 < x.size
  · rw [show Pc.wordsR ⟨s, c, hs, x⟩ = ([], 4) by unfold Pc.wordsR; rw [if_pos h64]]
    have f1 : (64 : Int) < (x.size : Int) := by omega
    simp only [pcv, pcc] at *
    go_enter Try.func10, Try.ntmps10
    go_wp2_with fail
    exact bodyPost_ret (v := .tuple #[.slice none 0 0, .int .i64 4]) (by simp [results, Try.results10, go_sem]) rfl ⟨none, 0, rfl, Nat.le_refl _, RN _, (Below.refl _ _).alloc (Nat.le_refl _) _⟩
  by_cases hok : Pc.okB ⟨s, c, hs, x⟩ = true
  · rw [show Pc.wordsR ⟨s, c, hs, x⟩ = (Pc.ws ⟨s, c, hs, x⟩, 0) by unfold Pc.wordsR; rw [if_neg h64, if_pos hok]]
    exact cwords_ok s c a cap x hs w hok hr
  rw [show Pc.wordsR ⟨s, c, hs, x⟩ = ([], 1) by unfold Pc.wordsR; rw [if_neg h64, if_neg hok]]
  have CR : ∀ w', Rd w' a (pc hs) → Calls Try.prog 15 #[pcv s c (.slice a hs.length cap) x] w' fun e w2 => e = .returned (.bool false) ∧ Below w'.heap.size w' w2 := fun w' h => by
    have := cok_any s c a cap x hs w' hl hx h
    rw [show Pc.okB ⟨s, c, hs, x⟩ = false by simpa using hok] at this
    exact this
  have f1 : ¬ (64 : Int) < (x.size : Int) := by omega
  simp only [pcv, pcc] at *
  obtain ⟨n, hn⟩ : ∃ n, hs.length = n := ⟨_, rfl⟩
  rw [hn] at CR ⊢
  have HB1 : Hid (Below w.heap.size w (w.alloc (.cells #[.int .i64 s, .bool c, .slice a n cap, .string x] 28))) := (Below.refl _ _).alloc (Nat.le_refl _) _
  have CR1 := CR (w.alloc (.cells #[.int .i64 s, .bool c, .slice a n cap, .string x] 28)) (hr.alloc _)
  clear CR hr hn hok
  go_enter Try.func10, Try.ntmps10
  go_wp2_with (go_at_call 15; (with_reducible refine CR1.mono ?_); rintro e w2 ⟨rfl, hb2⟩)
  exact bodyPost_ret (v := .tuple #[.slice none 0 0, .int .i64 1]) (by simp [results, Try.results10, go_sem]) rfl ⟨none, 0, rfl, Nat.le_refl _, RN _, HB1.out.trans (hb2.mono HB1.out.size)⟩
end Go.Proofs.Ytnhfoojnokiboaa
