/-
  The walks of Work and of the document's Work, at few and small numbers.
-/
import Derived.Test.YtaohimmmhpmgdaaDoorWords
namespace Go.Proofs.YtaohimmmhpmgdaaDoor
open Go.RowKit

theorem okH_nil (b : Int) : okH [] b = false := by
  cases h : okH [] b with
  | false => rfl
  | true => have := ((okH_iff _ _).1 h).1; simp at this
theorem okH_out {l : List Int} {b : Int} (h : b < 0 ∨ 64 < b) : okH l b = false := by
  cases e : okH l b with
  | false => rfl
  | true => obtain ⟨_, h1, h2, _⟩ := (okH_iff _ _).1 e; omega
theorem okH_neg {l : List Int} {b : Int} {k : Nat} (hk : k < l.length) (h : l.getD k 0 < 0) : okH l b = false := by
  cases e : okH l b with
  | false => rfl
  | true => obtain ⟨_, _, _, h4, h5⟩ := (okH_iff _ _).1 e; have := ok_nonneg h4 h5 k hk; omega
theorem okH_fall {l : List Int} {b : Int} {k : Nat} (hk : k + 1 < l.length) (h : l.getD (k + 1) 0 < l.getD k 0) : okH l b = false := by
  cases e : okH l b with
  | false => rfl
  | true => obtain ⟨_, _, _, h4, h5⟩ := (okH_iff _ _).1 e; have := h5 k hk; omega
theorem okH_srt {l : List Int} {b : Int} (h : srtB l = false) : okH l b = false := by unfold okH; rw [h]; simp

set_option maxRecDepth 100000 in
set_option maxHeartbeats 2000000 in
theorem work_any (l : List Int) (b : Int) (s : Option Addr) (cap : Nat) (w : World) (hf : Few l) (hr : RdA w s (vi l)) :
    Calls Tryd.prog 12 #[.slice s l.length cap, .int .i64 b] w fun e w' => e = .returned (.int .i64 (wrk l b)) ∧ Dr w w' := by
  have KW := words_any (l.length : Int) b w (by have := hf.1; omega)
  have KS := fun v h => isSorted_any l s cap v hf.1 h
  cases hw : okW l.length b with
  | false =>
    rw [wds_no hw] at KW
    rw [wrk_no (by unfold okH; rw [hw]; rfl)]
    clear hf hr KS hw
    generalize l.length = n at *
    go_enter Tryd.func12, Tryd.ntmps12
    go_wp2_with fail
    go_at_call 10
    refine KW.mono ?_
    rintro e v1 ⟨rfl, rfl⟩
    go_wp2
    go_ret
    exact ⟨rfl, Dr.refl _⟩
  | true =>
  rw [wds_yes hw] at KW
  obtain ⟨hl1, hb0, hb1⟩ := (okW_iff _ _).1 hw
  have ht := tl_in hb0 hb1
  obtain ⟨W, hW⟩ : ∃ W, (l.length : Int) + tl b = W := ⟨_, rfl⟩
  rw [hW] at KW
  have hn0 : 0 < l.length := by omega
  obtain ⟨g, o, rfl, hg, c0⟩ := hr.num hn0
  have c0' : w.cell? ⟨g, o, none⟩ = some (.int .i64 (l.getD 0 0)) := by simpa using c0
  have w0 : ¬ W < 0 := by omega
  by_cases h0 : l.getD 0 0 < 0
  · rw [wrk_no (okH_neg hn0 h0)]
    generalize l.getD 0 0 = x at *
    have hn1 : (0 : Int) < (l.length : Int) := by omega
    clear hf hr KS hw hW ht
    generalize l.length = n at *
    go_enter Tryd.func12, Tryd.ntmps12
    go_wp2_with fail
    go_at_call 10
    refine KW.mono ?_
    rintro e v1 ⟨rfl, rfl⟩
    go_wp2
    go_ret
    exact ⟨rfl, Dr.refl _⟩
  · cases hs : srtB l with
    | false =>
      rw [wrk_no (okH_srt hs)]
      have KS := KS w hr
      rw [hs] at KS
      generalize l.getD 0 0 = x at *
      have hn1 : (0 : Int) < (l.length : Int) := by omega
      clear hf hr hw hW ht hs
      generalize l.length = n at *
      go_enter Tryd.func12, Tryd.ntmps12
      go_wp2_with fail
      go_at_call 10
      refine KW.mono ?_
      rintro e v1 ⟨rfl, rfl⟩
      go_wp2_with fail
      go_at_call 26
      refine KS.mono ?_
      rintro e v1 ⟨rfl, hd⟩
      have HD : Hid (Dr w v1) := hd
      clear hd KS KW
      go_wp2
      go_ret
      exact ⟨rfl, HD.out⟩
    | true =>
      have ok : okH l b = true := by unfold okH; rw [hw, hs]; simp only [Bool.true_and, Bool.and_true, decide_eq_true_eq]; omega
      rw [wrk_yes ok]
      have KS := KS w hr
      rw [hs] at KS
      have LA := hf.last
      have TM := tl_mul hf hb0 hb1
      have SB : Hid (∀ k, k ≤ l.length → -(1000 * (k : Int)) ≤ smK l k ∧ smK l k ≤ 1000 * (k : Int)) := hf.sum
      have SS : Hid (∀ k, k < l.length → smK l (k + 1) = smK l k + mv (l.getD k 0)) := smK_succ l
      have EL : Hid (∀ k, -100 ≤ l.getD k 0 ∧ l.getD k 0 ≤ 100) := hf.2
      have HR : Hid (RdA w (some ⟨g, o, none⟩) (vi l)) := hr
      obtain ⟨_, _, _, _, c1⟩ := hr.num (i := l.length - 1) (by omega)
      rename_i g' o' e' _
      simp only [Option.some.injEq, Addr.mk.injEq] at e'
      obtain ⟨rfl, rfl, _⟩ := e'
      have CL : Hid (∀ v, Dr w v → ∀ m, (v.drewN m).cell? ⟨g, o + (l.length - 1), none⟩ = some (.int .i64 (lstH l))) := fun v hv m => (hv.cell _).trans c1
      have Z := smK_zero l
      have hl := hf.1
      obtain ⟨SM, hSM⟩ : ∃ SM : Nat → Int, ∀ k, smK l k = SM k := ⟨fun k => smK l k, fun _ => rfl⟩
      obtain ⟨LD, hLD⟩ : ∃ LD : Nat → Int, ∀ k, l.getD k 0 = LD k := ⟨fun k => l.getD k 0, fun _ => rfl⟩
      have VA : Hid (∀ v, Dr w v → ∀ k, k < l.length → v.cell? ⟨g, o + k, none⟩ = some (.int .i64 (LD k))) := show _ from fun v hv k hk => by
        obtain ⟨_, _, e', _, c⟩ := hr.num hk
        simp only [Option.some.injEq, Addr.mk.injEq] at e'
        obtain ⟨rfl, rfl, _⟩ := e'
        rw [← hLD]
        exact (hv.cell _).trans c
      simp only [hSM, hLD] at *
      clear hf hr hw hs ok c0 c1 hSM hLD
      generalize lstH l = L at *
      generalize l.length = n at *
      obtain ⟨T, hT⟩ : ∃ T, tl b * mv L = T := ⟨_, rfl⟩
      have hWn : W - (n : Int) = tl b := by omega
      have e1 : IntKind.i64.wrap (W - (n : Int)) = tl b := by rw [hWn]; exact IntWalk.i64_in _ (by omega)
      have e2 : IntKind.i64.wrap (tl b * mv L) = T := by rw [hT]; exact IntWalk.i64_in _ (by omega)
      have e3 : IntKind.i64.wrap ((n : Int) - 1) = ((n - 1 : Nat) : Int) := by rw [IntWalk.i64_in _ (by omega)]; omega
      have MV := fun v => moves_any L v (by omega) (by omega)
      rw [hT] at TM ⊢
      obtain ⟨R, hR⟩ : ∃ R, T + SM n + 2 * L + 2 * (n : Int) = R := ⟨_, rfl⟩
      rw [hR]
      obtain ⟨n1, hn1⟩ : ∃ n1, n - 1 = n1 := ⟨_, rfl⟩
      rw [hn1] at e3 CL
      have n2 : n1 < n := by omega
      have n3 : (n1 : Int) < (n : Int) := by omega
      have n4 : (0 : Int) < (n : Int) := by omega
      have x1 : 0 ≤ LD 0 := by omega
      have FA : Hid (∀ k, k ≤ n → -(1000 * (k : Int)) ≤ SM k ∧ SM k ≤ 1000 * (k : Int)) := SB.out
      have b1 := SB.out n (Nat.le_refl _)
      obtain ⟨L2, hL2⟩ : ∃ L2, 2 * L = L2 := ⟨_, rfl⟩
      obtain ⟨N2, hN2⟩ : ∃ N2, 2 * (n : Int) = N2 := ⟨_, rfl⟩
      rw [hL2] at hR
      rw [hN2] at hR
      have E1 : IntKind.i64.wrap (2 * L) = L2 := by rw [← hL2]; exact IntWalk.i64_in _ (by omega)
      have E2 : IntKind.i64.wrap (2 * (n : Int)) = N2 := by rw [← hN2]; exact IntWalk.i64_in _ (by omega)
      have E3 : Hid (∀ x, x = T + SM n → ∃ y, IntKind.i64.wrap (x + L2) = y ∧ IntKind.i64.wrap (y + N2) = R) := show _ from fun x hx => ⟨x + L2, IntWalk.i64_in _ (by omega), by rw [IntWalk.i64_in _ (by omega)]; omega⟩
      have HTM : Hid (-10000 ≤ T ∧ T ≤ 10000) := TM
      have HZ : Hid (SM 0 = 0) := Z
      clear ht hW LA b1 hl1 hWn hT hn1 hR hL2 hN2 hg hn0 TM Z hb0 hb1 SB
      generalize LD 0 = x at *
      go_enter Tryd.func12, Tryd.ntmps12
      go_wp2_with fail
      go_at_call 10
      refine KW.mono ?_
      rintro e v1 ⟨rfl, rfl⟩
      go_wp2_with fail
      go_at_call 26
      refine KS.mono ?_
      rintro e v1 ⟨rfl, hd⟩
      have HD : Hid (Dr w v1) := hd
      have q1 := CL.out v1 hd
      clear hd KS KW
      go_wp2_with fail
      go_quiet (fail)
      have HD2 : Hid (Dr w (v1.drewN nq)) := HD.out.more _
      clear HD q1
      generalize v1.drewN nq = v2 at *
      go_wp2_with fail
      go_at_call 27
      refine (MV _).mono ?_
      rintro e v3 ⟨rfl, rfl⟩
      clear MV
      go_wp2_with fail
      go_loopw [8, 44] (fun x i wr => ∃ k : Nat, k ≤ n ∧ i = .int .i64 k ∧ x = .int .i64 (T + SM k) ∧ Dr w wr) (fun _ i _ => n - (RowKit.intOf i).toNat)
      case atStart => exact ⟨0, Nat.zero_le _, rfl, by rw [HZ.out, Int.add_zero], HD2.out⟩
      case round =>
        obtain ⟨k, hk, rfl, rfl, hd⟩ := hrel
        have HDR : Hid (Dr w wr) := hd
        by_cases hlt : k < n
        · have h1 : (k : Int) < (n : Int) := by omega
          have h2 : (0 : Int) ≤ k := by omega
          have c1 := VA.out wr hd k hlt
          have r1 := SS.out k hlt
          have r2 := EL.out k
          have r3 := FA.out k hk
          have r4 := HTM.out
          have MV := fun v => moves_any (LD k) v (by omega) (by omega)
          have hm : -298 ≤ mv (LD k) ∧ mv (LD k) ≤ 302 := by unfold mv; omega
          have e4 : IntKind.i64.wrap (T + SM k + mv (LD k)) = T + SM (k + 1) := by rw [IntWalk.i64_in _ (by omega), r1]; omega
          clear r1 r2 r3 r4 hm hd
          generalize hy : T + SM k = y at *
          generalize hz : T + SM (k + 1) = z at *
          have HZZ : Hid (T + SM (k + 1) = z) := hz
          clear hy hz
          go_wp2_with fail
          go_at_call 27
          refine (MV _).mono ?_
          rintro e v3 ⟨rfl, rfl⟩
          clear MV
          go_wp2
          go_roundw
          case rel => exact ⟨k + 1, by omega, by go_num, by rw [HZZ.out], HDR.out⟩
          case measure => simp [RowKit.intOf]; omega
        · obtain rfl : k = n := by omega
          have h1 : ¬ (k : Int) < (k : Int) := by omega
          obtain ⟨y, e4, e5⟩ := E3.out _ rfl
          generalize T + SM k = z at *
          clear hd
          go_wp2
          go_ret
          exact ⟨rfl, HDR.out⟩
end Go.Proofs.YtaohimmmhpmgdaaDoor
