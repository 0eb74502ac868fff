/-
  The walk of FairSees.
-/
import Derived.Test.YtaeoglfpcbehdaaFSt
namespace Go.Proofs.Ytaeoglfpcbehdaa
open Go.RowKit

set_option maxRecDepth 100000 in
set_option maxHeartbeats 16000000 in
theorem sees_law (pl : Int) (R : List BR) (a : Option Addr) (c : Nat) (w : World) (hr : Rd w a (brs R)) (ho : ∀ r ∈ R, BRok w r) (hm : R.length ≤ maxLen) :
    Calls Try.prog 8 #[.int .i64 pl, .slice a R.length c] w fun e w' => e = .returned (.bool true) ∧ Below w.heap.size w w' := by
  have LV := lives_any w
  have NC := fun v => new_any pl v
  obtain ⟨h0, hN, -⟩ := clamp_pos pl
  generalize hcl : clampN pl = N at *
  have HCL : Hid (clampN pl = N) := hcl
  clear hcl
  have FC := fun v (h : Rd v a (brs R)) (h2 : ∀ r ∈ R, BRok v r) => few_any R a c v h h2 hm
  have FL := fewR_len R
  have FO := fun v (h : ∀ r ∈ R, BRok v r) => fewR_ok h
  generalize fewR R = F at *
  have HR : Hid (Rd w a (brs R)) := hr
  have HO : Hid (∀ r ∈ R, BRok w r) := ho
  have HFO : Hid (∀ v, (∀ r ∈ R, BRok v r) → ∀ r ∈ F, BRok v r ∧ r.l.length ≤ 20) := FO
  clear hr ho hm FO
  go_enter Try.func8, Try.ntmps8
  go_wp2_with fail
  go_at_call 9
  with_reducible refine LV.mono ?_
  rintro e w1 ⟨rfl, hb1⟩
  have B1 : Hid (Below w.heap.size w w1) := hb1
  clear LV hb1
  go_upto_region 4 with (go_at_call 10; (with_reducible refine (NC _).mono ?_); rintro e w' ⟨rfl, rfl⟩)
  have X0 : Hid (Below w1.heap.size w1 ((w1.alloc (.cells (oc pl 0) 48)).alloc (.cells (oc pl 0) 48))) := ((Below.refl _ _).alloc (Nat.le_refl _) _).alloc (by simp) _
  have KA : Hid (Fb ((w1.alloc (.cells (oc pl 0) 48)).alloc (.cells (oc pl 0) 48)) w1.heap.size N 0) := (Fb.new _ HCL.out).alloc _
  have KB : Hid (Fb ((w1.alloc (.cells (oc pl 0) 48)).alloc (.cells (oc pl 0) 48)) (w1.heap.size + 1) N 0) := show Fb _ _ _ _ from by
    have := Fb.new (w1.alloc (.cells (oc pl 0) 48)) HCL.out
    rwa [show (w1.alloc (.cells (oc pl 0) 48)).heap.size = w1.heap.size + 1 by simp] at this
  have hwb : w.heap.size ≤ w1.heap.size := B1.out.size
  have Y0 : Hid (Below w.heap.size w ((w1.alloc (.cells (oc pl 0) 48)).alloc (.cells (oc pl 0) 48))) := B1.out.trans (X0.out.mono hwb)
  clear NC B1 X0
  generalize (w1.alloc (.cells (oc pl 0) 48)).alloc (.cells (oc pl 0) 48) = v0 at *
  obtain ⟨b, hb⟩ : ∃ b, w1.heap.size = b := ⟨_, rfl⟩
  rw [hb] at KA KB hwb ⊢
  obtain ⟨b2, hb2⟩ : ∃ b2, b + 1 = b2 := ⟨_, rfl⟩
  rw [hb2] at KB ⊢
  have hne : ¬ b = b2 := by omega
  have hwb2 : w.heap.size ≤ b2 := by omega
  clear hb hb2
  have FC0 := FC v0 (HR.out.below Y0.out) (fun r hr => (HO.out r hr).below Y0.out)
  clear FC
  go_wp2_with fail
  go_at_call 12
  with_reducible refine FC0.mono ?_
  rintro e v1 ⟨fv, rfl, ow, hb1⟩
  obtain ⟨fa, fcap, rfl, -, -, rd1⟩ := ow.rd
  rw [brs_len]
  have RW1 : Hid (Rws v1 fa F) := ⟨rd1, HFO.out v1 fun r hr => ((HO.out r hr).below Y0.out).below hb1⟩
  have KA1 : Hid (Fb v1 b N 0) := KA.out.next hb1
  have KB1 : Hid (Fb v1 b2 N 0) := KB.out.next hb1
  have Y1 : Hid (Below w.heap.size w v1) := Y0.out.trans (hb1.mono Y0.out.size)
  clear FC0 ow rd1 hb1 KA KB Y0 HR HO HFO
  obtain ⟨n, hn⟩ : ∃ n, F.length = n := ⟨_, rfl⟩
  have HN : Hid (F.length = n) := hn
  rw [hn] at FL ⊢
  clear hn
  go_wp2_with fail
  go_loopw [7] (fun x wr => ∃ j l : Nat, j ≤ n ∧ x = .int .i64 j ∧ l ≤ N ∧ Fb wr b N l ∧ Fb wr b2 N l ∧ Rws wr fa F ∧ Below w.heap.size w wr) (fun x _ => n - (RowKit.intOf x).toNat)
  case atStart => exact ⟨0, 0, Nat.zero_le _, rfl, Nat.zero_le _, KA1.out, KB1.out, RW1.out, Y1.out⟩
  case round =>
    obtain ⟨j, l, hj, rfl, hl, ka, kb, rw1, y1⟩ := hrel
    clear KA1 KB1 RW1 Y1
    have KA : Hid (Fb wr b N l) := ka
    have KB : Hid (Fb wr b2 N l) := kb
    have RW : Hid (Rws wr fa F) := rw1
    have Y : Hid (Below w.heap.size w wr) := y1
    clear ka kb rw1 y1
    by_cases hlt : j < n
    case neg =>
      have e4 : ¬ (j : Int) < (n : Int) := by omega
      go_wp2
      go_ret
      exact ⟨rfl, Y.out⟩
    have e4 : (j : Int) < (n : Int) := by omega
    have e5 : (0 : Int) ≤ (j : Int) := by omega
    have hjF : j < F.length := by rw [HN.out]; exact hlt
    have RAT : Hid (∀ V, Rws V fa F → ∃ g o, fa = some ⟨g, o, none⟩ ∧ g < V.heap.size ∧ V.cell? ⟨g, o + j, none⟩ = some (.slice F[j].a F[j].l.length F[j].c) ∧ Rd V F[j].a (vb F[j].l) ∧ F[j].l.length ≤ 20) := show _ from fun V h => h.at hjF
    generalize F[j] = r at *
    obtain ⟨ra, rl, rc⟩ := r
    simp only at RAT
    obtain ⟨g, o, rfl, -, c0, r0, hrl⟩ := RAT.out wr RW.out
    have CAT : Hid (∀ V, Rws V (some ⟨g, o, none⟩) F → V.cell? ⟨g, o + j, none⟩ = some (.slice ra rl.length rc) ∧ Rd V ra (vb rl)) := show _ from fun V h => by
      obtain ⟨g', o', e, -, h1, h2, -⟩ := RAT.out V h
      simp only [Option.some.injEq, Addr.mk.injEq] at e
      obtain ⟨rfl, rfl, -⟩ := e
      exact ⟨h1, h2⟩
    clear RAT
    have AC := fun v => at_any ra rl.length rc v
    have SC := see_at (c := rc) h0 hN hl KA.out r0
    have hl2 := nxtl_le (W := wl rl) h0 hl
    have hsm := ask_same (N := N) (l := l) (W := wl rl)
    have SC2 := fun V (h : Fb V b N l) (h2 : Rd V ra (vb rl)) => see_at (c := rc) h0 hN hl h h2
    have NX := fun V (h : Fb V b N l) (h2 : Rd V ra (vb rl)) => next_at (c := rc) h0 hN hl h h2
    have OF := fun V (h : Fb V b2 N l) (h2 : Rd V ra (vb rl)) => of_any (c := rc) h0 hN hl h h2
    have LA := fun V (l : Nat) (h : Fb V b N l) => last_any h
    have LB := fun V (l : Nat) (h : Fb V b2 N l) => last_any h
    generalize nxtl N l (wl rl) = l2 at *
    generalize ask N l (wl rl) = q at *
    obtain ⟨k, is⟩ := q
    have CAT2 : Hid (∀ V, Rws V (some ⟨g, o, none⟩) F → Rd V ra (vb rl)) := show _ from fun V h => (CAT.out V h).2
    have CAT1 : Hid (∀ V, Rws V (some ⟨g, o, none⟩) F → V.cell? ⟨g, o + j, none⟩ = some (.slice ra rl.length rc)) := show _ from fun V h => (CAT.out V h).1
    clear CAT r0
    generalize vb rl = vrl at *
    generalize rl.length = m at *
    clear rl
    go_upto_region 9 with (first
      | (go_at_call 14; (with_reducible refine (AC _).mono ?_); rintro e w' ⟨rfl, rfl⟩)
      | (go_at_call 13; (with_reducible refine SC.mono ?_); rintro e w2 ⟨rfl, h2⟩))
    have KA2 : Hid (Fb w2 b N l) := KA.out.next h2
    have KB2 : Hid (Fb w2 b2 N l) := KB.out.next h2
    have RW2 : Hid (Rws w2 (some ⟨g, o, none⟩) F) := RW.out.below h2
    have Y2 : Hid (Below w.heap.size w w2) := Y.out.trans (h2.mono Y.out.size)
    clear KA KB RW Y SC h2 c0
    have c0 := CAT1.out w2 RW2.out
    have SC := SC2 w2 KA2.out (CAT2.out w2 RW2.out)
    go_upto_region 10 with (first
      | (go_at_call 14; (with_reducible refine (AC _).mono ?_); rintro e w' ⟨rfl, rfl⟩)
      | (go_at_call 13; (with_reducible refine SC.mono ?_); rintro e w3 ⟨rfl, h3⟩))
    have KA3 : Hid (Fb w3 b N l) := KA2.out.next h3
    have KB3 : Hid (Fb w3 b2 N l) := KB2.out.next h3
    have RW3 : Hid (Rws w3 (some ⟨g, o, none⟩) F) := RW2.out.below h3
    have Y3 : Hid (Below w.heap.size w w3) := Y2.out.trans (h3.mono Y2.out.size)
    clear KA2 KB2 RW2 Y2 SC SC2 h3 c0
    have c0 := CAT1.out w3 RW3.out
    have LC := LA w3 l KA3.out
    have NC := NX w3 KA3.out (CAT2.out w3 RW3.out)
    go_upto_region 12 with (first
      | (go_at_call 14; (with_reducible refine (AC _).mono ?_); rintro e w' ⟨rfl, rfl⟩)
      | (go_at_call 16; (with_reducible refine LC.mono ?_); rintro e w' ⟨rfl, rfl⟩)
      | (go_at_call 19; (with_reducible refine NC.mono ?_); rintro e w4 ⟨rfl, k4, g4⟩))
    have KA4 : Hid (Fb w4 b N l2) := k4
    have KB4 : Hid (Fb w4 b2 N l) := KB3.out.gb g4 (fun e => hne e.symm)
    have RW4 : Hid (Rws w4 (some ⟨g, o, none⟩) F) := RW3.out.gb KA3.out g4
    have Y4 : Hid (Below w.heap.size w w4) := g4.up Y3.out hwb Y3.out.size
    clear KA3 KB3 RW3 Y3 NC NX LC AC k4 g4 c0
    have c0 := CAT1.out w4 RW4.out
    have OC := OF w4 KB4.out (CAT2.out w4 RW4.out)
    go_upto_region 13 with (go_at_call 18; (with_reducible refine OC.mono ?_); rintro e w5 ⟨rfl, k5, g5⟩)
    have KA5 : Hid (Fb w5 b N l2) := KA4.out.gb g5 hne
    have KB5 : Hid (Fb w5 b2 N l2) := k5
    have RW5 : Hid (Rws w5 (some ⟨g, o, none⟩) F) := RW4.out.gb KB4.out g5
    have Y5 : Hid (Below w.heap.size w w5) := g5.up Y4.out hwb2 Y4.out.size
    clear KA4 KB4 RW4 Y4 OC OF k5 g5 c0 CAT1 CAT2
    have LC := LA w5 l2 KA5.out
    have LC2 := LB w5 l2 KB5.out
    clear LA LB
    cases is
    · obtain rfl := hsm rfl
      clear hsm
      generalize (l2 : Int) - 1 = z at *
      go_wp2_with (first
        | (go_at_call 16; (with_reducible refine LC.mono ?_); rintro e w' ⟨rfl, rfl⟩)
        | (go_at_call 16; (with_reducible refine LC2.mono ?_); rintro e w' ⟨rfl, rfl⟩))
      go_roundw
      case rel => exact ⟨j + 1, l2, by omega, by go_num, hl2, KA5.out, KB5.out, RW5.out, Y5.out⟩
      case measure => simp [RowKit.intOf]; omega
    · clear hsm
      obtain ⟨z, hz⟩ : ∃ z, (l2 : Int) - 1 = z := ⟨_, rfl⟩
      rw [hz] at LC LC2
      go_wp2_with (first
        | (go_at_call 16; (with_reducible refine LC.mono ?_); rintro e w' ⟨rfl, rfl⟩)
        | (go_at_call 16; (with_reducible refine LC2.mono ?_); rintro e w' ⟨rfl, rfl⟩))
      go_roundw
      case rel => exact ⟨j + 1, l2, by omega, by go_num, hl2, KA5.out, KB5.out, RW5.out, Y5.out⟩
      case measure => simp [RowKit.intOf]; omega
end Go.Proofs.Ytaeoglfpcbehdaa
