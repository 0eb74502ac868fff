/-
  The walk of FairAll.
-/
import Derived.Test.YtaeoglfpcbehdaaFSt
import Derived.Laws.MakeOwn
namespace Go.Proofs.Ytaeoglfpcbehdaa
open Go.RowKit

/-- How often each had a turn, as cells. -/
def cntA (N i : Nat) : Array Value := ((List.range N).map fun k => Value.int .i64 (cnt N i k : Int)).toArray
theorem cntA_at {N i k : Nat} (h : k < N) : (cntA N i)[k]? = some (.int .i64 (cnt N i k : Int)) := by
  unfold cntA
  simp [h]
theorem cntA_size (N i : Nat) : (cntA N i).size = N := by simp [cntA]
theorem cntA_next {N : Nat} (h0 : 0 < N) (i : Nat) : (cntA N i).setIfInBounds (i % N) (.int .i64 ((cnt N i (i % N) : Int) + 1)) = cntA N (i + 1) := by
  have hm := Nat.mod_lt i h0
  apply Array.ext
  · simp [cntA_size]
  · intro k h1 h2
    have hk : k < N := by rw [cntA_size] at h2; exact h2
    have e1 := cntA_at (i := i) hk
    have e2 := cntA_at (i := i + 1) hk
    rw [Array.getElem?_eq_getElem (by rw [cntA_size]; exact hk)] at e1 e2
    rw [Array.getElem_setIfInBounds, Option.some.inj e2, cnt_next h0 i k hk]
    by_cases he : i % N = k
    · rw [if_pos he, if_pos he.symm, he]
      rfl
    · rw [if_neg he, if_neg (fun e => he e.symm), Option.some.inj e1]
      rfl
    rw [cntA_size]
    exact hk
theorem made_cnt (N : Nat) : madeCells #[Value.int .i64 0] (N * 1) = cntA N 0 := by
  apply Array.ext
  · simp [madeCells, cntA_size]
  · intro k h1 h2
    have hk : k < N := by rw [cntA_size] at h2; exact h2
    have e2 := cntA_at (i := 0) hk
    rw [Array.getElem?_eq_getElem (by rw [cntA_size]; exact hk), cnt_zero] at e2
    rw [Option.some.inj e2]
    simp [madeCells, Nat.mod_one]
theorem Try.info3 : (Try.prog.info? 3).map (fun i => (i.zero, i.size, i.bytes)) = some (some (.int .i64 0), 1, 8) := by kernel_rfl

set_option maxRecDepth 100000 in
set_option maxHeartbeats 16000000 in
theorem all_law (pl tu : Int) (w : World) : Calls Try.prog 7 #[.int .i64 pl, .int .i64 tu] w fun e w' => e = .returned (.bool true) ∧ Below w.heap.size w w' := by
  have LV := lives_any w
  obtain ⟨i0, ki, hz0, hz1, hz2⟩ := info_parts Try.info3
  obtain ⟨k1, k2⟩ := rst_in pl (m := 12) (by decide) (by decide)
  obtain ⟨t1, t2⟩ := rst_in tu (m := 60) (by decide) (by decide)
  replace k2 : wrap64 ((IntKind.u64.wrap pl).tmod 12) = ((rst pl 12 : Nat) : Int) := (IntWalk.i64_left _).symm.trans k2
  replace t2 : wrap64 ((IntKind.u64.wrap tu).tmod 60) = ((rst tu 60 : Nat) : Int) := (IntWalk.i64_left _).symm.trans t2
  generalize rst pl 12 = pk at *
  generalize rst tu 60 = n at *
  obtain ⟨N, hN⟩ : ∃ N : Nat, 1 + pk = N := ⟨_, rfl⟩
  have k3 : (1 : Int) + (pk : Int) = (N : Int) := by omega
  have h0 : 0 < N := by omega
  have h12 : N ≤ 12 := by omega
  clear hN k1
  have NC := fun v => new_any (N : Int) v
  go_enter Try.func7, Try.ntmps7
  go_wp2_with fail
  go_at_call 9
  with_reducible refine LV.mono ?_
  rintro e w1 ⟨rfl, hb1⟩
  have B1 : Hid (Below w.heap.size w w1) := hb1
  clear LV hb1
  go_wp2_with fail
  go_at_call 10
  with_reducible refine (NC _).mono ?_
  rintro e w' ⟨rfl, rfl⟩
  have KA : Hid (Fb (w1.alloc (.cells (oc (N : Int) 0) 48)) w1.heap.size N 0) := Fb.new _ (clamp_id h0 (by omega))
  have Y0 : Hid (Below w.heap.size w (w1.alloc (.cells (oc (N : Int) 0) 48))) := B1.out.alloc B1.out.size _
  have hwb : w.heap.size ≤ w1.heap.size := B1.out.size
  clear NC B1
  generalize w1.alloc (.cells (oc (N : Int) 0) 48) = v0 at *
  obtain ⟨b, hb⟩ : ∃ b, w1.heap.size = b := ⟨_, rfl⟩
  rw [hb] at KA hwb ⊢
  clear hb
  have hmk : ∀ v : World, (Instr.makeSlice 45 (.int .i64 (N : Int)) (.int .i64 (N : Int))).run Try.prog v = .ok (.slice (some ⟨v.heap.size, 0, none⟩) N N) (v.alloc (.cells (cntA N 0) 3)) := fun v => by
    have := run_make (P := Try.prog) v 45 3 i0 (.int .i64 0) Try.underlying45 ki hz0 .i64 .i64 (N : Int) (N : Int) (by omega) (Int.le_refl _) (by rw [hz2]; omega) (by omega)
    rw [hz1, Int.toNat_natCast] at this
    rw [← made_cnt]
    exact this
  go_upto_region 7 with fail
  have KA1 : Hid (Fb (v0.alloc (.cells (cntA N 0) 3)) b N 0) := KA.out.alloc _
  have KH1 : Hid (Bk (v0.alloc (.cells (cntA N 0) 3)) v0.heap.size (cntA N 0) 3) := Bk.new _ _ _
  have Y1 : Hid (Below w.heap.size w (v0.alloc (.cells (cntA N 0) 3))) := Y0.out.alloc Y0.out.size _
  have hne : ¬ b = v0.heap.size := by have := KA.out.lt; omega
  have hwh : w.heap.size ≤ v0.heap.size := Y0.out.size
  clear KA Y0 hmk
  generalize v0.alloc (.cells (cntA N 0) 3) = v1 at *
  obtain ⟨hb, hhb⟩ : ∃ b, v0.heap.size = b := ⟨_, rfl⟩
  rw [hhb] at KH1 hne hwh ⊢
  clear hhb
  have NX := fun V l (hl : l ≤ N) (h : Fb V b N l) => next_grows all_ent h0 (by omega : N ≤ 4096) hl h (all_grows N V)
  have NX2 : Hid (∀ V j, Fb V b N (lall N j) → Calls Try.prog 19 #[.pointer (some ⟨b, 0, none⟩), .func (.func 21) #[] #[]] V fun e w' => e = .returned (.tuple #[.int .i64 ((j % N : Nat) : Int), .bool true]) ∧ Fb w' b N (lall N (j + 1)) ∧ Gb b V w') := show _ from fun V j h => by
    have := NX V _ (lall_le h0 j) h
    rw [ask_all h0 (fun _ _ => rfl), lall_next h0 (fun _ _ => rfl)] at this
    exact this
  clear NX
  have HLN : Hid (∀ j, lall N (j + 1) = j % N + 1) := show _ from fun j => rfl
  have HL0 : Hid (lall N 0 = 0) := show lall N 0 = 0 from rfl
  generalize lall N = LL at *
  go_wp2_with fail
  go_loopw [7] (fun x wr => ∃ j : Nat, j ≤ n ∧ x = .int .i64 j ∧ Fb wr b N (LL j) ∧ Bk wr hb (cntA N j) 3 ∧ Below w.heap.size w wr) (fun x _ => n - (RowKit.intOf x).toNat)
  case atStart => exact ⟨0, Nat.zero_le _, rfl, by rw [HL0.out]; exact KA1.out, KH1.out, Y1.out⟩
  case round =>
    obtain ⟨j, hj, rfl, ka, kh, y⟩ := hrel
    have KA : Hid (Fb wr b N (LL j)) := ka
    have KH : Hid (Bk wr hb (cntA N j) 3) := kh
    have Y : Hid (Below w.heap.size w wr) := y
    clear KA1 KH1 Y1 ka kh y
    by_cases hlt : j < n
    case neg =>
      have e4 : ¬ (j : Int) < (n : Int) := by omega
      obtain rfl : j = n := by omega
      clear NX2 HLN HL0 KA hne hlt
      go_wp2_with fail
      go_loopw [10] (fun x wr => ∃ i : Nat, i ≤ N ∧ x = .int .i64 i ∧ Bk wr hb (cntA N j) 3 ∧ Below w.heap.size w wr) (fun x _ => N - (RowKit.intOf x).toNat)
      case atStart => exact ⟨0, Nat.zero_le _, rfl, KH.out, Y.out⟩
      case round =>
        obtain ⟨i, hi, rfl, kh, y⟩ := hrel
        have KI : Hid (Bk wr hb (cntA N j) 3) := kh
        have YI : Hid (Below w.heap.size w wr) := y
        clear KH Y kh y
        by_cases hli : i < N
        case neg =>
          have e5 : ¬ (i : Int) < (N : Int) := by omega
          go_wp2
          go_ret
          exact ⟨rfl, YI.out⟩
        have e5 : (i : Int) < (N : Int) := by omega
        have e6 : (0 : Int) ≤ (i : Int) := by omega
        have e7 : ¬ N = 0 := by omega
        obtain ⟨n1, n2⟩ := cnt_near N j i
        have c0 := (KI.out.cell i).trans (cntA_at hli)
        have hd60 : j / N ≤ j := Nat.div_le_self _ _
        obtain ⟨d, hd⟩ : ∃ d, j / N = d := ⟨_, rfl⟩
        have ed : (j : Int) / (N : Int) = (d : Int) := by rw [← hd, Int.natCast_ediv]
        rw [hd] at n1 n2 hd60
        clear hd
        generalize cnt N j i = x at *
        have hdb : d ≤ 60 := by omega
        have hwd : IntKind.i64.wrap (d : Int) = (d : Int) := IntWalk.i64_in _ (by omega)
        have hwd1 : IntKind.i64.wrap ((d : Int) + 1) = (d : Int) + 1 := IntWalk.i64_in _ (by omega)
        have x1 : ¬ (x : Int) < (d : Int) := by omega
        have x2 : ¬ (d : Int) + 1 < (x : Int) := by omega
        have x3 : (d : Int) ≤ (x : Int) := by omega
        have x4 : (x : Int) ≤ (d : Int) + 1 := by omega
        go_wp2_with fail
        go_quiet (fail)
        go_wp2
        exact ⟨⟨i + 1, by omega, by go_num, KI.out.drewN _, dn YI.out _⟩, by simp [RowKit.intOf]; omega⟩
    have e4 : (j : Int) < (n : Int) := by omega
    have hq : j % N < N := Nat.mod_lt _ h0
    have hcn := cntA_next h0 j
    have hcx := cnt_near N j (j % N)
    have hdv : j / N ≤ j := Nat.div_le_self _ _
    have NC := NX2.out wr j KA.out
    rw [HLN.out] at NC
    have HL := HLN.out j
    have hcq := cntA_at (N := N) (i := j) hq
    obtain ⟨q, hjq⟩ : ∃ q, j % N = q := ⟨_, rfl⟩
    have em : (j : Int) % (N : Int) = (q : Int) := by rw [← hjq, Int.natCast_emod]
    rw [hjq] at NC hq hcn hcq hcx HL
    have e6 : (q : Int) < (N : Int) := by omega
    have e7 : (0 : Int) ≤ (q : Int) := by omega
    have e8 : ¬ N = 0 := by omega
    obtain ⟨x, hx⟩ : ∃ x, cnt N j q = x := ⟨_, rfl⟩
    rw [hx] at hcn hcq hcx
    have hx100 : x ≤ 100 := by omega
    clear hx hjq hcx hdv
    go_upto_region 11 with (go_at_call 19; (with_reducible refine NC.mono ?_); rintro e w2 ⟨rfl, k2', g2⟩)
    have KA2 : Hid (Fb w2 b N (q + 1)) := k2'
    have KH2 : Hid (Bk w2 hb (cntA N j) 3) := KH.out.gb g2 (fun e => hne e.symm)
    have Y2 : Hid (Below w.heap.size w w2) := g2.up Y.out hwb Y.out.size
    clear KA KH Y NC k2' g2
    have LC := last_any KA2.out
    rw [show ((q + 1 : Nat) : Int) - 1 = (q : Int) by omega] at LC
    have c0 := (KH2.out.cell q).trans hcq
    have z0 := KH2.out.free q
    go_wp2_with (go_at_call 16; (with_reducible refine LC.mono ?_); rintro e w' ⟨rfl, rfl⟩)
    exact ⟨⟨j + 1, by omega, by go_num, by rw [HL]; exact KA2.out.far hne, by rw [← hcn]; exact KH2.out.set q _, Y2.out.setCell hwh _⟩, by simp [RowKit.intOf]; omega⟩
end Go.Proofs.Ytaeoglfpcbehdaa
