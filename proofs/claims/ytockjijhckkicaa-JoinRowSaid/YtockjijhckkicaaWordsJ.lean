/-
  The walk of words: of parcels that may be, one behind the other.
-/
import Derived.Test.YtockjijhckkicaaPk
import Derived.Test.YtockjijhckkicaaFour
namespace Go.Proofs.Ytockjijhckkicaa
open Go.RowKit

/-- A parcel for one that may be, made of any; words and packets of the first k. -/
def g8 (p : Pc) : Pc := gd ⟨p.s, false, p.hs, p.x⟩
def wj (ps : List Pc) (k : Nat) : List Nat := (ps.take k).flatMap fun p => (g8 p).ws
def kj (ps : List Pc) (k : Nat) : List Pk := (ps.take k).flatMap fun p => pks (g8 p)
theorem take_one {α : Type} {l : List α} {k : Nat} {p : α} (h : l[k]? = some p) : l.take (k + 1) = l.take k ++ [p] := by
  rw [List.take_add_one, h]
  rfl
theorem wj_step {ps : List Pc} {k : Nat} {p : Pc} (h : ps[k]? = some p) : wj ps (k + 1) = wj ps k ++ (g8 p).ws := by
  unfold wj
  rw [take_one h, List.flatMap_append]
  simp
theorem kj_step {ps : List Pc} {k : Nat} {p : Pc} (h : ps[k]? = some p) : kj ps (k + 1) = kj ps k ++ pks (g8 p) := by
  unfold kj
  rw [take_one h, List.flatMap_append]
  simp
theorem wj_small (ps : List Pc) : ∀ k, (wj ps k).length ≤ 17 * k ∧ (kj ps k).length ≤ 6 * k := by
  intro k
  induction k with
  | zero => simp [wj, kj]
  | succ k ih =>
    cases h : ps[k]? with
    | none =>
      have e : ps.take (k + 1) = ps.take k := by rw [List.take_add_one, h]; simp
      unfold wj kj at ih ⊢
      rw [e]
      omega
    | some p =>
      rw [wj_step h, kj_step h, List.length_append, List.length_append, pks_len]
      have := (fine ⟨p.s, false, p.hs, p.x⟩).ws_small.1
      have h6 := (fine ⟨p.s, false, p.hs, p.x⟩).l6
      unfold g8
      omega
theorem wj_all {ps : List Pc} {k : Nat} (h : k = ps.length ∨ k = 8) (h1 : k ≤ ps.length) (h2 : k ≤ 8) : wj ps k = wj ps 8 ∧ kj ps k = kj ps 8 := by
  rcases h with rfl | rfl
  · unfold wj kj
    rw [List.take_length, List.take_of_length_le h2]
    exact ⟨rfl, rfl⟩
  · exact ⟨rfl, rfl⟩

set_option maxRecDepth 100000 in
set_option maxHeartbeats 16000000 in
theorem wordsj_any (ps : List Pc) (a : Option Addr) (cap : Nat) (w : World) (hr : PsRd w a ps) :
    Calls Try.prog 9 #[.slice a ps.length cap] w fun e w' => ∃ v1 v2, e = .returned (.tuple #[v1, v2]) ∧ Own 28 w' w.heap.size v1 (vw (wj ps 8)) ∧ OwnK 33 4 w' w.heap.size v2 (kj ps 8).length (kcs (kj ps 8)) ∧ Below w.heap.size w w' := by
  obtain ⟨i0, ki, hz0, hz1, hz2⟩ := info_parts Try.info28
  obtain ⟨i5, k5, y0, y1, y2⟩ := info_parts Try.info33
  have HR : Hid (PsRd w a ps) := hr
  have HST : Hid (∀ k p, ps[k]? = some p → vw (wj ps k) ++ vw (g8 p).ws = vw (wj ps (k + 1)) ∧ kcs (kj ps k) ++ kcs (pks (g8 p)) = kcs (kj ps (k + 1)) ∧ (kj ps k).length + (pks (g8 p)).length = (kj ps (k + 1)).length) := show _ from fun k p h => by
    rw [wj_step h, kj_step h, vw_app, kcs_app, List.length_append]
    exact ⟨rfl, rfl, rfl⟩
  have HSM : Hid (∀ k, k ≤ 8 → (vw (wj ps k)).length ≤ 1000 ∧ (kj ps k).length ≤ 1000) := show _ from fun k h => by
    have := wj_small ps k
    rw [vw_len]
    omega
  have HAL : Hid (∀ k, k ≤ ps.length → k ≤ 8 → (k = ps.length ∨ k = 8) → wj ps k = wj ps 8 ∧ kj ps k = kj ps 8) := show _ from fun k h1 h2 h3 => wj_all h3 h1 h2
  have HZ : Hid (vw (wj ps 0) = [] ∧ kcs (kj ps 0) = [] ∧ (kj ps 0).length = 0) := ⟨rfl, rfl, rfl⟩
  obtain ⟨n, hn⟩ : ∃ n, ps.length = n := ⟨_, rfl⟩
  have HN : Hid (ps.length = n) := hn
  rw [hn] at HAL ⊢
  clear hr hn
  obtain ⟨RW, hRW⟩ : ∃ R, wj ps 8 = R := ⟨_, rfl⟩
  obtain ⟨RK, hRK⟩ : ∃ R, kj ps 8 = R := ⟨_, rfl⟩
  rw [hRW, hRK] at HAL ⊢
  clear hRW hRK
  generalize wj ps = WF at *
  generalize kj ps = KF at *
  go_enter Try.func9, Try.ntmps9
  go_wp2_with fail
  go_loopw [4, 5, 6] (fun v1 v2 i wr => ∃ k : Nat, k ≤ n ∧ k ≤ 8 ∧ i = .int .i64 k ∧ Own 28 wr w.heap.size v1 (vw (WF k)) ∧ OwnK 33 4 wr w.heap.size v2 (KF k).length (kcs (KF k)) ∧ Below w.heap.size w wr) (fun _ _ i _ => n - (RowKit.intOf i).toNat)
  case atStart => exact ⟨0, Nat.zero_le _, Nat.zero_le _, rfl, by rw [HZ.out.1]; exact World.ownsRow_nil _ _ _ _, by rw [HZ.out.2.1, HZ.out.2.2]; exact OwnK.nil _ _ _ _, Below.refl _ _⟩
  case round =>
    obtain ⟨k, hk, hk8, rfl, o1, o2, hb⟩ := hrel
    obtain ⟨v1, rfl⟩ : ∃ v1, v1 = u4 := ⟨_, rfl⟩
    obtain ⟨v2, rfl⟩ : ∃ v2, v2 = u5 := ⟨_, rfl⟩
    have HB : Hid (Below w.heap.size w wr) := hb
    have O1 : Hid (Own 28 wr w.heap.size v1 (vw (WF k))) := o1
    have O2 : Hid (OwnK 33 4 wr w.heap.size v2 (KF k).length (kcs (KF k))) := o2
    clear hb o1 o2 HZ
    by_cases hlt : k < n
    case neg =>
      have e1 : ¬ (k : Int) < (n : Int) := by omega
      obtain ⟨E1, E2⟩ := HAL.out k hk hk8 (by omega)
      go_wp2
      refine bodyPost_ret (v := .tuple #[v1, v2]) (by simp [results, Try.results9, go_sem]) rfl ⟨v1, v2, rfl, ?_, ?_, HB.out⟩
      · rw [← E1]; exact O1.out
      · rw [← E2]; exact O2.out
    have e1 : (k : Int) < (n : Int) := by omega
    by_cases hl8 : k < 8
    case neg =>
      have e2 : ¬ (k : Int) < 8 := by omega
      obtain ⟨E1, E2⟩ := HAL.out k hk hk8 (by omega)
      go_wp2
      refine bodyPost_ret (v := .tuple #[v1, v2]) (by simp [results, Try.results9, go_sem]) rfl ⟨v1, v2, rfl, ?_, ?_, HB.out⟩
      · rw [← E1]; exact O1.out
      · rw [← E2]; exact O2.out
    have e2 : (k : Int) < 8 := by omega
    have e0 : (0 : Int) ≤ (k : Int) := by omega
    obtain ⟨p, hp⟩ : ∃ p, ps[k]? = some p := ⟨_, List.getElem?_eq_getElem (by rw [HN.out]; exact hlt)⟩
    obtain ⟨S1, S2, S3⟩ := HST.out k p hp
    obtain ⟨g, o, rfl, hg, c0', c1', c3', a', z', c2', hm, hx, hrd⟩ := HR.out k p hp
    have c0 := (HB.out.cell (p := ⟨g, o + k * 4, none⟩) hg).trans c0'
    have c1 := (HB.out.cell (p := ⟨g, o + k * 4 + 1, none⟩) hg).trans c1'
    have c2 := (HB.out.cell (p := ⟨g, o + k * 4 + 2, none⟩) hg).trans c2'
    have c3 := (HB.out.cell (p := ⟨g, o + k * 4 + 3, none⟩) hg).trans c3'
    have F := fine ⟨p.s, false, p.hs, p.x⟩
    have GN := good_new p.s false a' z' p.x p.hs (wr.alloc (.cells #[.int .i64 p.s, .bool false, .slice a' p.hs.length z', .string p.x] 60)) hm hx ((hrd.below HB.out).alloc _)
    have SM1 := (HSM.out k hk8).1
    have SM2 := (HSM.out k hk8).2
    clear c0' c1' c2' c3' hp hm hx hrd hg
    rw [show (⟨md p.s 4096, false, gH false p.hs, gx p.x⟩ : Pc) = g8 p from rfl] at GN
    replace F : Fine (g8 p) := F
    obtain ⟨G, hG⟩ : ∃ G, g8 p = G := ⟨_, rfl⟩
    rw [hG] at GN F S1 S2 S3
    clear hG
    have HF : Hid (Fine G) := F
    have RWc := fun a cap w' h => F.rwords a cap w' h
    have RPc := fun a cap w' h => F.rpackets a cap w' h
    have q17 := F.ws_small.1
    have q2 := F.ws_small.2
    have q6 := F.l6
    have q1 := F.l1
    have HST1 : Hid (vw (WF k) ++ vw G.ws = vw (WF (k + 1))) := S1
    have HST2 : Hid (kcs (KF k) ++ kcs (pks G) = kcs (KF (k + 1))) := S2
    have HST3 : Hid ((KF k).length + (pks G).length = (KF (k + 1)).length) := S3
    have KK : Hid (kc G.s G.x G.hs = kcs (pks G)) := kc_kcs G
    have KL : Hid ((pks G).length = G.hs.length) := pks_len G
    clear S1 S2 S3 F
    obtain ⟨Ps, Pf, Ph, Px⟩ := p
    unfold PcN at GN
    simp only [pcv, pcc] at GN RWc RPc c0 c1 c2 c3
    obtain ⟨Pn, hPn⟩ : ∃ m, Ph.length = m := ⟨_, rfl⟩
    rw [hPn] at GN c2
    clear hPn
    have W1 : Hid (Below wr.heap.size wr (wr.alloc (.cells #[.int .i64 Ps, .bool false, .slice a' Pn z', .string Px] 60))) := (Below.refl _ _).alloc (Nat.le_refl _) _
    have W2 : Hid (Bk (wr.alloc (.cells #[.int .i64 Ps, .bool false, .slice a' Pn z', .string Px] 60)) wr.heap.size #[.int .i64 Ps, .bool false, .slice a' Pn z', .string Px] 60) := Bk.new _ _ _
    go_upto_region 8 with fail
    obtain ⟨b, hbb⟩ : ∃ b, wr.heap.size = b := ⟨_, rfl⟩
    have HBB : Hid (wr.heap.size = b) := hbb
    go_wp2_with fail
    go_at_call 19
    with_reducible refine GN.mono ?_
    rintro e w2 ⟨ga, gz, rfl, hgz, rd2, hb2, hnew⟩
    have hb1 : wr.heap.size + 1 ≤ (wr.alloc (.cells #[.int .i64 Ps, .bool false, .slice a' Pn z', .string Px] 60)).heap.size := by simp
    have HNW : Hid (∀ x, ga = some x → b + 1 ≤ x.block) := show _ from fun x h => Nat.le_trans (by omega) (hnew x h)
    have P1 : Hid (Below wr.heap.size wr w2) := W1.out.trans (hb2.mono W1.out.size)
    have P2 : Hid (Bk w2 b #[.int .i64 Ps, .bool false, .slice a' Pn z', .string Px] 60) := by
      have := W2.out.next hb2
      rw [hbb] at this
      exact this
    have P3 : Hid (Rd w2 ga (pc G.hs)) := rd2
    have P4 : Hid (Own 28 w2 w.heap.size v1 (vw (WF k))) := OwnK.below (k := 1) O1.out P1.out
    have P5 : Hid (OwnK 33 4 w2 w.heap.size v2 (KF k).length (kcs (KF k))) := O2.out.below P1.out
    have m1 : v1.ownBlock ≠ some b := fun h => by have := (OwnK.lt (k := 1) O1.out h).2; omega
    have m2 : v2.ownBlock ≠ some b := fun h => by have := (O2.out.lt h).2; omega
    have nl1 : ∀ r, v1.ownBlock = some r → w.heap.size ≤ r := fun r h => (OwnK.lt (k := 1) O1.out h).1
    have nl2 : ∀ r, v2.ownBlock = some r → w.heap.size ≤ r := fun r h => (O2.out.lt h).1
    have mg : ∀ r, v1.ownBlock = some r → r < b := fun r h => by have := (OwnK.lt (k := 1) O1.out h).2; omega
    have P6 : Hid (Below w.heap.size w w2) := HB.out.trans (P1.out.mono HB.out.size)
    have hwb : w.heap.size ≤ b := by have := HB.out.size; omega
    clear GN hb2 rd2 hnew W1 W2 hb1 O1 O2 HB c0 c1 c2 c3
    rw [hbb]
    clear hbb HBB
    obtain ⟨Gs, Gc, Gh, Gx⟩ := G
    simp only at hgz q17 q2 q6 q1
    obtain ⟨Gn, hGn⟩ : ∃ m, Gh.length = m := ⟨_, rfl⟩
    have HGN : Hid (Gh.length = Gn) := hGn
    simp only at RWc RPc KL KK P3
    rw [hGn] at hgz q2 q6 q1 RWc RPc KL ⊢
    clear hGn
    generalize Pc.ws ⟨Gs, Gc, Gh, Gx⟩ = GW at *
    obtain ⟨nw, hnw⟩ : ∃ m, GW.length = m := ⟨_, rfl⟩
    have HNL : Hid (GW.length = nw) := hnw
    have hq1 : 1 ≤ nw := by omega
    rw [hnw] at q17 RWc
    clear hnw q2
    have c0 := P2.out.cell 0
    have c1 := P2.out.cell 1
    have c2 := P2.out.cell 2
    have c3 := P2.out.cell 3
    have z0 := P2.out.free 0
    have z1 := P2.out.free 1
    have z2 := P2.out.free 2
    have z3 := P2.out.free 3
    simp only [List.getElem?_toArray, List.getElem?_cons_zero, List.getElem?_cons_succ] at c0 c1 c2 c3
    go_upto_region 9 with fail
    clear c0 c1 c2 c3 z0 z1 z2 z3
    have Q2 : Hid (Bk ((((w2.setCell ⟨b, 0, none⟩ (.int .i64 Gs)).setCell ⟨b, 1, none⟩ (.bool Gc)).setCell ⟨b, 2, none⟩ (.slice ga Gn gz)).setCell ⟨b, 3, none⟩ (.string Gx)) b #[.int .i64 Gs, .bool Gc, .slice ga Gn gz, .string Gx] 60) := four_at P2.out
    have Q3 : Hid (Rd ((((w2.setCell ⟨b, 0, none⟩ (.int .i64 Gs)).setCell ⟨b, 1, none⟩ (.bool Gc)).setCell ⟨b, 2, none⟩ (.slice ga Gn gz)).setCell ⟨b, 3, none⟩ (.string Gx)) ga (pc Gh)) := four_rd P3.out P2.out
    have Q4 : Hid (Own 28 ((((w2.setCell ⟨b, 0, none⟩ (.int .i64 Gs)).setCell ⟨b, 1, none⟩ (.bool Gc)).setCell ⟨b, 2, none⟩ (.slice ga Gn gz)).setCell ⟨b, 3, none⟩ (.string Gx)) w.heap.size v1 (vw (WF k))) := four_own (k := 1) P4.out m1
    have Q5 : Hid (OwnK 33 4 ((((w2.setCell ⟨b, 0, none⟩ (.int .i64 Gs)).setCell ⟨b, 1, none⟩ (.bool Gc)).setCell ⟨b, 2, none⟩ (.slice ga Gn gz)).setCell ⟨b, 3, none⟩ (.string Gx)) w.heap.size v2 (KF k).length (kcs (KF k))) := four_own P5.out m2
    have Q6 : Hid (Below w.heap.size w ((((w2.setCell ⟨b, 0, none⟩ (.int .i64 Gs)).setCell ⟨b, 1, none⟩ (.bool Gc)).setCell ⟨b, 2, none⟩ (.slice ga Gn gz)).setCell ⟨b, 3, none⟩ (.string Gx))) := below_four P6.out hwb _ _ _ _
    clear P1 P2 P3 P4 P5 P6
    generalize (((w2.setCell ⟨b, 0, none⟩ (.int .i64 Gs)).setCell ⟨b, 1, none⟩ (.bool Gc)).setCell ⟨b, 2, none⟩ (.slice ga Gn gz)).setCell ⟨b, 3, none⟩ (.string Gx) = w3 at *
    have c0 := Q2.out.cell 0
    have c1 := Q2.out.cell 1
    have c2 := Q2.out.cell 2
    have c3 := Q2.out.cell 3
    simp only [List.getElem?_toArray, List.getElem?_cons_zero, List.getElem?_cons_succ] at c0 c1 c2 c3
    have RW1 := RWc ga gz w3 Q3.out
    clear RWc
    go_wp2_with fail
    go_at_call 18
    with_reducible refine RW1.mono ?_
    rintro e w4 ⟨a4, z4, rfl, hz4, rd4, hb4⟩
    have R2 : Hid (Bk w4 b #[.int .i64 Gs, .bool Gc, .slice ga Gn gz, .string Gx] 60) := Q2.out.next hb4
    have R3 : Hid (Rd w4 ga (pc Gh)) := Q3.out.below hb4
    have R4 : Own 28 w4 w.heap.size v1 (vw (WF k)) := OwnK.below (k := 1) Q4.out hb4
    have R4h : Hid (Own 28 w4 w.heap.size v1 (vw (WF k))) := R4
    have R5 : Hid (OwnK 33 4 w4 w.heap.size v2 (KF k).length (kcs (KF k))) := Q5.out.below hb4
    have R6 : Hid (Below w.heap.size w w4) := Q6.out.trans (hb4.mono Q6.out.size)
    clear RW1 hb4 Q2 Q3 Q4 Q5 Q6 c0 c1 c2 c3
    obtain ⟨g4, o4, rfl⟩ := rd4.at0 (by rw [vw_len, HNL.out]; omega)
    have hl4 : (vw (WF k)).length + nw ≤ 1000000 := by omega
    have hs4 := R6.out.size
    have hvl : (vw GW).length = nw := (vw_len _).trans HNL.out
    go_upto_region 11 with (at_builtin; go_loud (refine wpList_app_row rfl (.tmp 32) (.tmp 33) 23 28 i0 (.int .u64 0) 8 rfl Try.underlying23 ki hz0 hz1 hz2 rfl (by decide) w.heap.size w4 v1 (vw (WF k)) rfl R4 g4 o4 nw z4 rfl (vw GW) hvl rd4 (vw_one _) hl4 hs4 ?_; intro v1' w5 o5 g5))
    rw [HST1.out] at o5
    have U2 : Hid (Bk w5 b #[.int .i64 Gs, .bool Gc, .slice ga Gn gz, .string Gx] 60) := R2.out.kept g5 m1
    have U3 : Hid (Rd w5 ga (pc Gh)) := show Rd _ _ _ from fun j v hj => by
      obtain ⟨g, o, rfl, hg, hc⟩ := R3.out j v hj
      have h1 := HNW.out _ rfl
      refine ⟨g, o, rfl, Nat.lt_of_lt_of_le hg g5.size, ?_⟩
      rw [World.cell?_of_block (g5.block g hg fun h => by have := mg _ h.symm; simp only at h1; omega)]
      exact hc
    have U4 : Hid (Own 28 w5 w.heap.size v1' (vw (WF (k + 1)))) := o5
    have U5 : Hid (OwnK 33 4 w5 w.heap.size v2 (KF k).length (kcs (KF k))) := OwnK.kept (k := 1) R4h.out R5.out (by decide) g5
    have U6 : Hid (Below w.heap.size w w5) := Below.grown R6.out g5 R6.out.size nl1
    clear o5 g5 rd4 R2 R3 R4 R4h R5 R6 hs4 hl4 hvl
    have c0 := U2.out.cell 0
    have c1 := U2.out.cell 1
    have c2 := U2.out.cell 2
    have c3 := U2.out.cell 3
    simp only [List.getElem?_toArray, List.getElem?_cons_zero, List.getElem?_cons_succ] at c0 c1 c2 c3
    have RP1 := RPc ga gz w5 U3.out
    clear RPc
    go_wp2_with fail
    go_at_call 20
    with_reducible refine RP1.mono ?_
    rintro e w6 ⟨a6, z6, rfl, hz6, rd6, hb6⟩
    rw [KK.out] at rd6
    have V4 : Hid (Own 28 w6 w.heap.size v1' (vw (WF (k + 1)))) := OwnK.below (k := 1) U4.out hb6
    have V5 : OwnK 33 4 w6 w.heap.size v2 (KF k).length (kcs (KF k)) := U5.out.below hb6
    have V5h : Hid (OwnK 33 4 w6 w.heap.size v2 (KF k).length (kcs (KF k))) := V5
    have V6 : Hid (Below w.heap.size w w6) := U6.out.trans (hb6.mono U6.out.size)
    have hml : (kcs (pks ⟨Gs, Gc, Gh, Gx⟩)).length = Gn * 4 := by rw [kcs_len, KL.out]
    obtain ⟨g6, o6, rfl⟩ := rd6.at0 (by rw [hml]; omega)
    have hl6 : (KF k).length + Gn ≤ 1000000 := by omega
    have hs6 := V6.out.size
    clear RP1 hb6 U2 U3 U4 U5 U6 c0 c1 c2 c3
    go_wp2_with (at_builtin; go_loud (refine wpList_app_rowk rfl (.tmp 35) (.tmp 37) 25 33 i5 (.agg #[.int .i64 0, .int .i64 0, .int .i64 0, .string ⟨#[]⟩]) 4 40 rfl Try.underlying25 k5 y0 y1 y2 rfl (by decide) (by decide) w.heap.size w6 v2 (KF k).length (kcs (KF k)) rfl V5 g6 o6 Gn z6 rfl (kcs (pks ⟨Gs, Gc, Gh, Gx⟩)) hml rd6 (kcs_one _) hl6 hs6 ?_; intro v2' w7 o7 g7))
    rw [HST2.out] at o7
    have X5 : Hid (OwnK 33 4 w7 w.heap.size v2' (KF (k + 1)).length (kcs (KF (k + 1)))) := by
      rw [← HST3.out, KL.out]
      exact o7
    have X4 : Hid (Own 28 w7 w.heap.size v1' (vw (WF (k + 1)))) := OwnK.kept (k' := 1) V5h.out V4.out (by decide) g7
    have X6 : Hid (Below w.heap.size w w7) := Below.grown V6.out g7 V6.out.size nl2
    clear o7 g7 V4 V5 V5h V6 rd6
    go_roundw
    case rel => exact ⟨k + 1, by omega, by omega, by go_num, X4.out, X5.out, X6.out⟩
    case measure => simp [RowKit.intOf]; omega
end Go.Proofs.Ytockjijhckkicaa
