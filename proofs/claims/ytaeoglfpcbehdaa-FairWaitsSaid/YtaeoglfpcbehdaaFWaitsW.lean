/-
  The walk of FairWaits.
-/
import Derived.Test.YtaeoglfpcbehdaaFSt
namespace Go.Proofs.Ytaeoglfpcbehdaa
open Go.RowKit

/-- The truths that the law makes: who wants all the while, and the list's. -/
def wnt (wk : Nat) (L : List Bool) (k : Nat) : List Bool := (List.range k).map fun i => decide (i = wk) || wl L i
theorem wnt_len (wk : Nat) (L : List Bool) (k : Nat) : (wnt wk L k).length = k := by unfold wnt; rw [List.length_map, List.length_range]
theorem wnt_snoc (wk : Nat) (L : List Bool) (k : Nat) : vb (wnt wk L k) ++ [.bool (decide (k = wk) || wl L k)] = vb (wnt wk L (k + 1)) := by
  unfold vb wnt
  rw [List.range_succ, List.map_append, List.map_append]
  rfl
theorem wl_wnt {wk : Nat} {L : List Bool} {k i : Nat} (h : i < k) : wl (wnt wk L k) i = (decide (i = wk) || wl L i) := by
  unfold wl
  rw [List.getD_eq_getElem?_getD]
  unfold wnt
  rw [List.getElem?_map, List.getElem?_range h]
  rfl
theorem wnt_told {N l wk : Nat} {L : List Bool} (h0 : 0 < N) (hl : l ≤ N) (hk : wk < N) :
    (ask N l (wl (wnt wk L N))).2 = true ∧ wl (wnt wk L N) (ask N l (wl (wnt wk L N))).1 = true ∧ (ask N l (wl (wnt wk L N))).1 < N ∧ nxtl N l (wl (wnt wk L N)) = (ask N l (wl (wnt wk L N))).1 + 1 ∧ (¬ (ask N l (wl (wnt wk L N))).1 = wk → dst N ((ask N l (wl (wnt wk L N))).1 + 1) wk < dst N l wk) := by
  have hw : wl (wnt wk L N) wk = true := by rw [wl_wnt hk]; simp
  obtain ⟨h1, h2⟩ := ask_yes h0 hl hk hw
  refine ⟨h1, h2, ask_lt h0, ?_, fun hn => dst_next h0 hl hk hw hn⟩
  unfold nxtl
  rw [if_pos h1]
theorem Try.info4 : (Try.prog.info? 4).map (fun i => (i.zero, i.size, i.bytes)) = some (some (.bool false), 1, 1) := by kernel_rfl

set_option maxRecDepth 100000 in
set_option maxHeartbeats 16000000 in
theorem waits_law (pl wh : Int) (R : List BR) (a : Option Addr) (c : Nat) (w : World) (hr : Rd w a (brs R)) (ho : ∀ r ∈ R, BRok w r) (hm : R.length ≤ maxLen) :
    Calls Try.prog 4 #[.int .i64 pl, .int .i64 wh, .slice a R.length c] w fun e w' => e = .returned (.bool true) ∧ Below w.heap.size w w' := by
  have LV := lives_any w
  obtain ⟨i0, ki, hz0, hz1, hz2⟩ := info_parts Try.info4
  obtain ⟨k1, k2⟩ := rst_in pl (m := 12) (by decide) (by decide)
  replace k2 : wrap64 ((IntKind.u64.wrap pl).tmod 12) = ((rst pl 12 : Nat) : Int) := (IntWalk.i64_left _).symm.trans k2
  generalize rst pl 12 = pk at *
  obtain ⟨N, hN⟩ : ∃ N : Nat, 1 + pk = N := ⟨_, rfl⟩
  have k3 : (1 : Int) + (pk : Int) = (N : Int) := by omega
  have h0 : 0 < N := by omega
  have h12 : N ≤ 12 := by omega
  clear hN k1
  obtain ⟨q1, q2⟩ := rst_in wh (m := N) h0 (by omega)
  generalize rst wh N = wk at *
  replace q2 : wrap64 ((IntKind.u64.wrap wh).tmod (N : Int)) = (wk : Int) := (IntWalk.i64_left _).symm.trans q2
  have q3 : IntKind.u64.wrap (N : Int) = (N : Int) := by rw [IntKind.wrap_u64]; omega
  have q4 : ¬ N = 0 := by omega
  have NC := fun v => new_any (N : Int) v
  have FC := fun v (h : Rd v a (brs R)) (h2 : ∀ r ∈ R, BRok v r) => few_any R a c v h h2 hm
  have FL := fewR_len R
  have FO := fun v (h : ∀ r ∈ R, BRok v r) => fewR_ok h
  generalize fewR R = F at *
  have HR : Hid (Rd w a (brs R)) := hr
  have HO : Hid (∀ r ∈ R, BRok w r) := ho
  have HFO : Hid (∀ v, (∀ r ∈ R, BRok v r) → ∀ r ∈ F, BRok v r ∧ r.l.length ≤ 20) := FO
  clear hr ho hm FO
  go_enter Try.func4, Try.ntmps4
  go_wp2_with fail
  go_at_call 9
  with_reducible refine LV.mono ?_
  rintro e w1 ⟨rfl, hb1⟩
  have B1 : Hid (Below w.heap.size w w1) := hb1
  clear LV hb1
  go_wp2_with fail
  go_at_call 10
  with_reducible refine (NC _).mono ?_
  rintro e w' ⟨rfl, rfl⟩
  have KA : Hid (Fb (w1.alloc (.cells (oc (N : Int) 0) 48)) w1.heap.size N 0) := Fb.new _ (clamp_id h0 (by omega))
  have Y0 : Hid (Below w.heap.size w (w1.alloc (.cells (oc (N : Int) 0) 48))) := B1.out.alloc B1.out.size _
  have hwb : w.heap.size ≤ w1.heap.size := B1.out.size
  clear NC B1
  generalize w1.alloc (.cells (oc (N : Int) 0) 48) = v3 at *
  obtain ⟨b, hb⟩ : ∃ b, w1.heap.size = b := ⟨_, rfl⟩
  rw [hb] at KA hwb ⊢
  clear hb
  have FC0 := FC v3 (HR.out.below Y0.out) (fun r hr => (HO.out r hr).below Y0.out)
  clear FC
  go_wp2_with fail
  go_at_call 12
  with_reducible refine FC0.mono ?_
  rintro e v4 ⟨fv, rfl, ow, hb1⟩
  obtain ⟨fa, fcap, rfl, -, -, rd1⟩ := ow.rd
  rw [brs_len]
  have RW1 : Hid (Rws v4 fa F) := ⟨rd1, HFO.out v4 fun r hr => ((HO.out r hr).below Y0.out).below hb1⟩
  have KA1 : Hid (Fb v4 b N 0) := KA.out.next hb1
  have Y1 : Hid (Below w.heap.size w v4) := Y0.out.trans (hb1.mono Y0.out.size)
  clear FC0 ow rd1 hb1 KA Y0 HR HO HFO
  obtain ⟨n, hn⟩ : ∃ n, F.length = n := ⟨_, rfl⟩
  have HN : Hid (F.length = n) := hn
  rw [hn] at FL ⊢
  clear hn
  go_wp2_with fail
  go_loopw [8] (fun x wr => ∃ j l : Nat, j ≤ n ∧ x = .int .i64 j ∧ l ≤ N ∧ Fb wr b N l ∧ Rws wr fa F ∧ Below w.heap.size w wr) (fun x _ => n - (RowKit.intOf x).toNat)
  case atStart => exact ⟨0, 0, Nat.zero_le _, rfl, Nat.zero_le _, KA1.out, RW1.out, Y1.out⟩
  case round =>
    obtain ⟨j, l, hj, rfl, hl, ka, rw1, y1⟩ := hrel
    clear KA1 RW1 Y1
    have KA : Hid (Fb wr b N l) := ka
    have RW : Hid (Rws wr fa F) := rw1
    have Y : Hid (Below w.heap.size w wr) := y1
    clear ka rw1 y1
    by_cases hlt : j < n
    case neg =>
      have e4 : ¬ (j : Int) < (n : Int) := by omega
      go_wp2
      go_ret
      exact ⟨rfl, Y.out⟩
    have e4 : (j : Int) < (n : Int) := by omega
    have e5 : (0 : Int) ≤ (j : Int) := by omega
    have hjF : j < F.length := by rw [HN.out]; exact hlt
    have RAT : Hid (∀ V, Rws V fa F → ∃ g o, fa = some ⟨g, o, none⟩ ∧ g < V.heap.size ∧ V.cell? ⟨g, o + j, none⟩ = some (.slice F[j].a F[j].l.length F[j].c) ∧ Rd V F[j].a (vb F[j].l) ∧ F[j].l.length ≤ 20) := show _ from fun V h => h.at hjF
    generalize F[j] = r at *
    obtain ⟨ra, rl, rc⟩ := r
    simp only at RAT
    obtain ⟨g, o, rfl, -, -, -, hrl⟩ := RAT.out wr RW.out
    have CAT : Hid (∀ V, Rws V (some ⟨g, o, none⟩) F → V.cell? ⟨g, o + j, none⟩ = some (.slice ra rl.length rc) ∧ Rd V ra (vb rl)) := show _ from fun V h => by
      obtain ⟨g', o', e, -, h1, h2, -⟩ := RAT.out V h
      simp only [Option.some.injEq, Addr.mk.injEq] at e
      obtain ⟨rfl, rfl, -⟩ := e
      exact ⟨h1, h2⟩
    clear RAT
    have CAT2 : Hid (∀ V, Rws V (some ⟨g, o, none⟩) F → Rd V ra (vb rl)) := show _ from fun V h => (CAT.out V h).2
    have CAT1 : Hid (∀ V, Rws V (some ⟨g, o, none⟩) F → V.cell? ⟨g, o + j, none⟩ = some (.slice ra rl.length rc)) := show _ from fun V h => (CAT.out V h).1
    clear CAT
    have TR : Hid (∀ V k, Rws V (some ⟨g, o, none⟩) F → k < rl.length → ∃ g o, ra = some ⟨g, o, none⟩ ∧ g < V.heap.size ∧ V.cell? ⟨g, o + k, none⟩ = some (.bool (wl rl k))) := show _ from fun V k h hk => (CAT2.out V h).truth hk
    have WO : Hid (∀ k, ¬ k < rl.length → wl rl k = false) := show _ from fun k h => wl_out h
    have OFR : Hid (∀ V l, l ≤ N → Fb V b N l → Rws V (some ⟨g, o, none⟩) F → Calls Try.prog 18 #[.pointer (some ⟨b, 0, none⟩), .slice ra rl.length rc] V fun e w' => ∃ k is l2, l2 ≤ N ∧ e = .returned (.tuple #[.int .i64 k, .bool is]) ∧ Fb w' b N l2 ∧ Gb b V w') := show _ from fun V l hl hb hR => by
      refine (of_any (c := rc) h0 (by omega) hl hb (CAT2.out V hR)).mono ?_
      rintro e w' ⟨rfl, h1, h2⟩
      exact ⟨_, _, _, nxtl_le h0 hl, rfl, h1, h2⟩
    have WT : Hid (∀ V l a c, l ≤ N → Fb V b N l → Rd V a (vb (wnt wk rl N)) → Calls Try.prog 18 #[.pointer (some ⟨b, 0, none⟩), .slice a N c] V fun e w' => ∃ k : Nat, k < N ∧ wl (wnt wk rl N) k = true ∧ (¬ k = wk → dst N (k + 1) wk < dst N l wk) ∧ e = .returned (.tuple #[.int .i64 (k : Int), .bool true]) ∧ Fb w' b N (k + 1) ∧ Gb b V w') := show _ from fun V l a c hl hb hR => by
      obtain ⟨e1, e2, e3, e4, e5⟩ := wnt_told (L := rl) h0 hl q1
      have := of_any (c := c) h0 (by omega : N ≤ 4096) hl hb hR
      rw [wnt_len, e4] at this
      refine this.mono ?_
      rintro e w' ⟨rfl, h1, h2⟩
      exact ⟨_, e3, e2, e5, by rw [e1], h1, h2⟩
    have WS : Hid (∀ k, vb (wnt wk rl k) ++ [.bool (decide (k = wk) || wl rl k)] = vb (wnt wk rl (k + 1))) := show _ from wnt_snoc wk rl
    have WL : Hid (∀ k, (vb (wnt wk rl k)).length = k) := show _ from fun k => by rw [vb_len, wnt_len]
    have WA : Hid (∀ k, k < N → (vb (wnt wk rl N))[k]? = some (.bool (wl (wnt wk rl N) k))) := show _ from fun k h => vb_at (by rw [wnt_len]; exact h)
    have W0 : Hid (vb (wnt wk rl 0) = []) := show _ from by rfl
    generalize hVW : (fun k => vb (wnt wk rl k)) = VW at *
    have hVW' : ∀ k, vb (wnt wk rl k) = VW k := fun k => congrFun hVW k
    simp only [hVW'] at WS WL WA W0 WT
    generalize wl (wnt wk rl N) = WW at *
    generalize wl rl = WR at *
    clear hVW hVW'
    have hdl := dst_lt hl q1
    generalize rl.length = m at *
    go_wp2_with fail
    go_loopw [9] (fun x wr => ∃ wt l : Nat, x = .int .i64 wt ∧ l ≤ N ∧ Fb wr b N l ∧ Rws wr (some ⟨g, o, none⟩) F ∧ Below w.heap.size w wr ∧ wt + dst N l wk < N) (fun x _ => N - (RowKit.intOf x).toNat)
    case atStart => exact ⟨0, l, rfl, hl, KA.out, RW.out, Y.out, by omega⟩
    case round =>
      clear KA RW Y hl hdl
      clear l
      obtain ⟨wt, l, rfl, hl, ka, rw1, y1, hwd⟩ := hrel
      generalize wr = w5 at *
      have KA : Hid (Fb w5 b N l) := ka
      have RW : Hid (Rws w5 (some ⟨g, o, none⟩) F) := rw1
      have Y : Hid (Below w.heap.size w w5) := y1
      clear ka rw1 y1
      have c0 := CAT1.out w5 RW.out
      go_wp2_with fail
      go_loopw [10, 11] (fun v x wr => ∃ k : Nat, k ≤ N ∧ x = .int .i64 k ∧ Own 4 wr w5.heap.size v (VW k) ∧ Below w5.heap.size w5 wr) (fun _ x _ => N - (RowKit.intOf x).toNat)
      case atStart => exact ⟨0, Nat.zero_le _, rfl, by rw [W0.out]; exact Own.nil _ _ _, Below.refl _ _⟩
      case round =>
        obtain ⟨k, hk, rfl, own, hb⟩ := hrel
        obtain ⟨v, rfl⟩ : ∃ v, v = u10 := ⟨_, rfl⟩
        have HW : Hid (Own 4 wr w5.heap.size v (VW k)) := own
        have HB : Hid (Below w5.heap.size w5 wr) := hb
        clear own hb c0
        by_cases hkN : k < N
        case neg =>
          have e6 : ¬ (k : Int) < (N : Int) := by omega
          obtain rfl : N = k := by omega
          obtain ⟨va, vc, rfl, -, -, rdv⟩ := HW.out.rd
          rw [WL.out] at HW ⊢
          have KA2 : Hid (Fb wr b N l) := KA.out.next HB.out
          have RW2 : Hid (Rws wr (some ⟨g, o, none⟩) F) := RW.out.below HB.out
          have Y2 : Hid (Below w.heap.size w wr) := Y.out.trans (HB.out.mono Y.out.size)
          have OC := WT.out wr l va vc hl KA2.out rdv
          have RDV : Hid (Rd wr va (VW N)) := rdv
          clear rdv HW KA RW Y HB
          go_wp2_with fail
          go_at_call 18
          with_reducible refine OC.mono ?_
          rintro e w6 ⟨k, hkN, hwk, hdn, rfl, k6, g6⟩
          obtain ⟨gv, ov, rfl, hgv, cv⟩ := RDV.out k _ (WA.out k hkN)
          rw [hwk] at cv
          have cv6 := cell_gb KA2.out.nb g6 hgv cv (fun n e => by cases e)
          have KA6 : Hid (Fb w6 b N (k + 1)) := k6
          have RW6 : Hid (Rws w6 (some ⟨g, o, none⟩) F) := RW2.out.gb KA2.out g6
          have Y6 : Hid (Below w.heap.size w w6) := g6.up Y2.out hwb Y2.out.size
          have e8 : (k : Int) < (N : Int) := by omega
          have e9 : (0 : Int) ≤ (k : Int) := by omega
          clear KA2 RW2 Y2 OC RDV k6 g6 cv hgv hwk
          have c0 := CAT1.out w6 RW6.out
          by_cases hkw : k = wk
          · subst hkw
            have OC := OFR.out w6 (k + 1) (by omega) KA6.out RW6.out
            clear hdn hwd
            go_wp2_with (go_at_call 18; (with_reducible refine OC.mono ?_); rintro e w7 ⟨k', is', l2, hl2, rfl, k7, g7⟩; have KA7 : Hid (Fb w7 b N l2) := k7; have RW7 : Hid (Rws w7 (some ⟨g, o, none⟩) F) := RW6.out.gb KA6.out g7; have Y7 : Hid (Below w.heap.size w w7) := g7.up Y6.out hwb Y6.out.size; clear k7 g7)
            exact ⟨⟨j + 1, l2, by omega, by go_num, hl2, KA7.out, RW7.out, Y7.out⟩, by simp [RowKit.intOf]; omega⟩
          · have f1 : ¬ (k : Int) = (wk : Int) := by omega
            have f1' : ((k : Int) == (wk : Int)) = false := beq_false_of_ne f1
            have hd2 := hdn hkw
            have e10 : ¬ (N : Int) ≤ (wt : Int) + 1 := by omega
            have e11 : (wt : Int) + 1 < (N : Int) := by omega
            go_wp2
            exact ⟨⟨wt + 1, k + 1, by go_num, by omega, KA6.out, RW6.out, Y6.out, by omega⟩, by simp [RowKit.intOf]; omega⟩
        have e6 : (k : Int) < (N : Int) := by omega
        have e7 : (0 : Int) ≤ (k : Int) := by omega
        have hll : (VW k).length ≤ 1000000 := by rw [WL.out]; omega
        have hsn := WS.out k
        have c0 := CAT1.out wr (RW.out.below HB.out)
        by_cases hkw : k = wk
        · have f1 : (k : Int) = (wk : Int) := by omega
          have HSN : VW k ++ [.bool true] = VW (k + 1) := by rw [← hsn, hkw]; simp
          clear hsn
          go_wp2_with (at_builtin; go_loud (refine wpList_app_one rfl (.tmp 42) (.tmp 64) 34 4 i0 (.bool false) 1 rfl Try.underlying34 ki hz0 hz1 hz2 rfl (by decide) w5.heap.size wr v (VW k) (.bool true) rfl HW.out rfl rfl hll HB.out.size ?_; intro v1' w6 o6 k6; have own6 : Own 4 w6 w5.heap.size v1' (VW (k + 1)) := (by rw [HSN] at o6; exact o6); have b6 : Below w5.heap.size w5 w6 := k6.2.1 _ HB.out))
          exact ⟨⟨k + 1, by omega, by go_num, own6, b6⟩, by simp [RowKit.intOf]; omega⟩
        · have f1 : ¬ (k : Int) = (wk : Int) := by omega
          have f1' : ((k : Int) == (wk : Int)) = false := beq_false_of_ne f1
          by_cases hkm : k < m
          · have f2 : (k : Int) < (m : Int) := by omega
            obtain ⟨g2, o2, rfl, -, c1⟩ := TR.out wr k (RW.out.below HB.out) hkm
            have HSN : VW k ++ [.bool (WR k)] = VW (k + 1) := by rw [← hsn]; simp [hkw]
            clear hsn
            generalize WR k = X at *
            go_wp2_with (at_builtin; go_loud (refine wpList_app_one rfl (.tmp 42) (.tmp 64) 34 4 i0 (.bool false) 1 rfl Try.underlying34 ki hz0 hz1 hz2 rfl (by decide) w5.heap.size wr v (VW k) (.bool X) rfl HW.out rfl rfl hll HB.out.size ?_; intro v1' w6 o6 k6; have own6 : Own 4 w6 w5.heap.size v1' (VW (k + 1)) := (by rw [HSN] at o6; exact o6); have b6 : Below w5.heap.size w5 w6 := k6.2.1 _ HB.out))
            exact ⟨⟨k + 1, by omega, by go_num, own6, b6⟩, by simp [RowKit.intOf]; omega⟩
          · have f2 : ¬ (k : Int) < (m : Int) := by omega
            have HSN : VW k ++ [.bool false] = VW (k + 1) := by rw [← hsn, WO.out k hkm]; simp [hkw]
            clear hsn
            go_wp2_with (at_builtin; go_loud (refine wpList_app_one rfl (.tmp 42) (.tmp 64) 34 4 i0 (.bool false) 1 rfl Try.underlying34 ki hz0 hz1 hz2 rfl (by decide) w5.heap.size wr v (VW k) (.bool false) rfl HW.out rfl rfl hll HB.out.size ?_; intro v1' w6 o6 k6; have own6 : Own 4 w6 w5.heap.size v1' (VW (k + 1)) := (by rw [HSN] at o6; exact o6); have b6 : Below w5.heap.size w5 w6 := k6.2.1 _ HB.out))
            exact ⟨⟨k + 1, by omega, by go_num, own6, b6⟩, by simp [RowKit.intOf]; omega⟩
end Go.Proofs.Ytaeoglfpcbehdaa
