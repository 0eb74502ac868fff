/-
  The walk of the program's Read.
-/
import Derived.Test.YtnhfoojnokiboaaGath
import Derived.Test.YtnhfoojnokiboaaWords
import Derived.Test.YtnhfoojnokiboaaEqW
import Derived.Test.YtnhfoojnokiboaaRrd
namespace Go.Proofs.Ytnhfoojnokiboaa
open Go.RowKit

theorem errR_zero : ∀ (l : List Nat), errR l = 0 → ∀ j, j < l.length → (readR (l.getD j 0)).2 = 0
  | [], _, j, hj => absurd hj (Nat.not_lt_zero _)
  | w :: l, h, j, hj => by
    unfold errR at h
    by_cases h0 : (readR w).2 = 0
    · rw [if_neg (by simpa using h0)] at h
      cases j with
      | zero => simpa using h0
      | succ j =>
        have := errR_zero l h j (by simpa using hj)
        simpa using this
    · rw [if_pos h0] at h
      exact absurd h h0
/-- A row of pairs doesn't lie in a parcel's block. -/
theorem Rd.off {w : World} {a : Option Addr} {l : List (Int × Int)} {b : Nat} {s : Int} {c : Bool} {p : Option Addr} {m k : Nat} {x : ByteArray} {t : TypeId} (h : Rd w a (pc l)) (hb : Bk w b (pcc s c (.slice p m k) x) t) (w' : World) (hz : w.heap.size ≤ w'.heap.size) (hw : ∀ g, g ≠ b → w'.heap[g]? = w.heap[g]?) : Rd w' a (pc l) := by
  intro j v hj
  obtain ⟨g, o, rfl, hg, hc⟩ := h j v hj
  have hl : 0 < l.length := by
    have := (List.getElem?_eq_some_iff.mp hj).1
    rw [pc_len] at this
    omega
  obtain ⟨g', o', e, _, c1, c2⟩ := h.pair (k := 0) hl
  simp only [Option.some.injEq, Addr.mk.injEq] at e
  obtain ⟨rfl, rfl, _⟩ := e
  have hne : g ≠ b := by
    rintro rfl
    rw [hb.cell] at c1 c2
    match o, c1, c2 with
    | 0, _, c2 => simp at c2
    | 1, c1, _ => simp at c1
    | 2, c1, _ => simp at c1
    | 3, c1, _ => simp at c1
    | n + 4, c1, _ => simp at c1
  exact ⟨g, o, rfl, Nat.lt_of_lt_of_le hg hz, by rw [World.cell?_of_block (hw g hne)]; exact hc⟩

set_option maxRecDepth 100000 in
set_option maxHeartbeats 8000000 in
theorem crd_any (l : List Nat) (a : Option Addr) (cap : Nat) (w : World) (hl : l.length ≤ 100000) (hW : ∀ x ∈ l, x < 18446744073709551616) (hr : Rd w a (vw l)) :
    Calls Try.prog 21 #[.slice a l.length cap] w fun e w' => ∃ a' cap', e = .returned (.tuple #[pcv (readPc l).1.s (readPc l).1.c (.slice a' (readPc l).1.hs.length cap') (readPc l).1.x, .int .i64 (readPc l).2]) ∧ (readPc l).1.hs.length ≤ cap' ∧ Rd w' a' (pc (readPc l).1.hs) ∧ Below w.heap.size w w' := by
  have HG := gath_any l a cap (w.alloc (.cells (pcc 0 false (.slice none 0 0) ⟨#[]⟩) 28)) (by omega) hW (hr.alloc _)
  have HR : Hid (Rd w a (vw l)) := hr
  have BZ : Hid (Bk (w.alloc (.cells (pcc 0 false (.slice none 0 0) ⟨#[]⟩) 28)) w.heap.size (pcc 0 false (.slice none 0 0) ⟨#[]⟩) 28) := Bk.new _ _ _
  have LZ : Hid (Below w.heap.size w (w.alloc (.cells (pcc 0 false (.slice none 0 0) ⟨#[]⟩) 28))) := (Below.refl _ _).alloc (Nat.le_refl _) _
  have SZ : Hid ((w.alloc (.cells (pcc 0 false (.slice none 0 0) ⟨#[]⟩) 28)).heap.size = w.heap.size + 1) := show _ = _ by simp
  by_cases he : errR l = 0
  case neg =>
    obtain ⟨E, hE⟩ : ∃ E, errR l = E := ⟨_, rfl⟩
    rw [gathR_err hE (by rw [← hE]; exact he)] at HG
    rw [readPc_err hE (by rw [← hE]; exact he)]
    rw [hE] at he
    clear hE hr HR
    obtain ⟨n, hn⟩ : ∃ n, l.length = n := ⟨_, rfl⟩
    rw [hn] at HG ⊢
    clear hn hl hW
    simp only [pcv, pcc] at HG
    go_enter Try.func21, Try.ntmps21
    go_wp2_with fail
    go_at_call 33
    with_reducible refine HG.mono ?_
    rintro e w2 ⟨a2, cap2, rfl, hc2, rd2, hb2⟩
    have H0 : Bk w2 w.heap.size (pcc 0 false (.slice none 0 0) ⟨#[]⟩) 28 := BZ.out.next hb2
    have HB : Hid (Below w.heap.size w w2) := LZ.out.trans (hb2.mono LZ.out.size)
    have hz : w.heap.size < w2.heap.size := H0.lt
    have G0 := H0.alloc (.cells (pcc 0 false (.slice a2 0 cap2) ByteArray.empty) 28)
    have HB2 : Hid (Below w.heap.size w (w2.alloc (.cells (pcc 0 false (.slice a2 0 cap2) ByteArray.empty) 28))) := HB.out.alloc HB.out.size _
    have Z0 := G0.free 0
    have Z1 := G0.free 1
    have Z2 := G0.free 2
    have Z3 := G0.free 3
    have Y0 := G0.cell 0
    have Y1 := G0.cell 1
    have Y2 := G0.cell 2
    have Y3 := G0.cell 3
    have hz9 : w.heap.size < (w2.alloc (.cells (pcc 0 false (.slice a2 0 cap2) ByteArray.empty) 28)).heap.size := G0.lt
    simp only [pcc] at *
    clear G0 H0 rd2 hb2 HG BZ LZ SZ HB
    go_upto_region 2 with fail
    generalize w2.alloc (.cells #[.int .i64 0, .bool false, .slice a2 0 cap2, .string ByteArray.empty] 28) = wf at *
    simp at Y0 Y1 Y2 Y3
    go_wp2
    first
      | exact bodyPost_ret (v := .tuple #[pcv 0 false (.slice none 0 0) ByteArray.empty, .int .i64 E]) (by simp [results, Try.results21, go_sem, Y0, Y1, Y2, Y3]; try rfl) rfl ⟨none, ⟨0, rfl⟩, fun j u hj => by simp [pc] at hj, below_four HB2.out (Nat.le_refl _) _ _ _ _⟩
      | exact bodyPost_ret (v := .tuple #[pcv 0 false (.slice none 0 0) ByteArray.empty, .int .i64 E]) (by simp [results, Try.results21, go_sem, Y0, Y1, Y2, Y3]; try rfl) rfl ⟨none, 0, rfl, Nat.le_refl _, fun j u hj => by simp [pc] at hj, below_four HB2.out (Nat.le_refl _) _ _ _ _⟩
  have hall := errR_zero l he
  have hsm := pk_small (l := l) l.length (Nat.le_refl _) hall
  rw [gathR_ok he] at HG
  obtain ⟨P, hP⟩ : ∃ P, pk l l.length = P := ⟨_, rfl⟩
  have HBAD : Hid (¬ P.wordsR = (l, 0) → readPc l = (zp, 2)) := show _ from fun h => readPc_bad hall (by rw [hP]; exact h)
  have HGOOD : Hid (P.wordsR = (l, 0) → readPc l = (P, 0)) := show _ from fun h => by
    have := readPc_good hall (by rw [hP]; exact h)
    rw [hP] at this
    exact this
  rw [hP] at hsm HG
  clear hP hall he
  obtain ⟨sm1, sm2⟩ := hsm
  obtain ⟨rs, hrs⟩ : ∃ rs, readPc l = rs := ⟨_, rfl⟩
  rw [hrs] at HBAD HGOOD ⊢
  clear hrs hW
  have HWL : ∀ w' a' cap', Rd w' a' (pc P.hs) → _ := fun w' a' cap' h => cwords_any P.s P.c a' cap' P.x P.hs w' (by omega) (by unfold maxLen; omega) h
  have HQ : ∀ w' a' cap' (ws : List Nat), ws.length ≤ 1000000 → Rd w' a' (vw ws) → Rd w' a (vw l) → _ := fun w' a' cap' ws h1 h2 h3 => eqw_any ws l a' a cap' cap w' h1 (by omega) h2 h3
  obtain ⟨⟨ws, er⟩, hwr⟩ : ∃ r, P.wordsR = r := ⟨_, rfl⟩
  have hwl : ws.length ≤ 1000000 := by
    have h1 : P.wordsR.1.length ≤ 1000000 := by
      unfold Pc.wordsR
      split
      · simp
      · split
        · show P.ws.length ≤ _
          rw [ws_len]
          unfold nb
          omega
        · simp
    rw [hwr] at h1
    exact h1
  rw [show (⟨P.s, P.c, P.hs, P.x⟩ : Pc) = P from rfl, hwr] at HWL
  rw [hwr] at HBAD HGOOD
  clear hwr hr
  obtain ⟨n, hn⟩ : ∃ n, l.length = n := ⟨_, rfl⟩
  rw [hn] at HG HQ sm1 sm2 hl ⊢
  clear hn
  obtain ⟨Ps, Pcc, Phs, Px⟩ := P
  simp only [pcv, pcc] at HG HWL
  simp only at sm1 sm2
  have HCL : Hid (Phs.length ≤ 1000000) := show _ ≤ _ by omega
  go_enter Try.func21, Try.ntmps21
  go_wp2_with fail
  go_at_call 33
  with_reducible refine HG.mono ?_
  rintro e w2 ⟨a2, cap2, rfl, hc2, rd2, hb2⟩
  have H0 : Bk w2 w.heap.size (pcc 0 false (.slice none 0 0) ⟨#[]⟩) 28 := BZ.out.next hb2
  have HB : Below w.heap.size w w2 := LZ.out.trans (hb2.mono LZ.out.size)
  have hz : w.heap.size < w2.heap.size := H0.lt
  have G0 := H0.alloc (.cells (pcc Ps Pcc (.slice a2 Phs.length cap2) Px) 28)
  have G1 : Bk (w2.alloc (.cells (pcc Ps Pcc (.slice a2 Phs.length cap2) Px) 28)) w2.heap.size (pcc Ps Pcc (.slice a2 Phs.length cap2) Px) 28 := Bk.new _ _ _
  have HBa : Hid (Below w.heap.size w (w2.alloc (.cells (pcc Ps Pcc (.slice a2 Phs.length cap2) Px) 28))) := HB.alloc HB.size _
  have RDa : Hid (Rd (w2.alloc (.cells (pcc Ps Pcc (.slice a2 Phs.length cap2) Px) 28)) a2 (pc Phs)) := rd2.alloc _
  have hz9 : w.heap.size < (w2.alloc (.cells (pcc Ps Pcc (.slice a2 Phs.length cap2) Px) 28)).heap.size := G0.lt
  have hz8 : w2.heap.size < (w2.alloc (.cells (pcc Ps Pcc (.slice a2 Phs.length cap2) Px) 28)).heap.size := G1.lt
  have HC2 : Hid (Phs.length ≤ cap2) := hc2
  have K0 : Hid (Bk (w2.alloc (.cells (pcc Ps Pcc (.slice a2 Phs.length cap2) Px) 28)) w.heap.size (pcc 0 false (.slice none 0 0) ⟨#[]⟩) 28) := G0
  have K1 : Hid (Bk (w2.alloc (.cells (pcc Ps Pcc (.slice a2 Phs.length cap2) Px) 28)) w2.heap.size (pcc Ps Pcc (.slice a2 Phs.length cap2) Px) 28) := G1
  clear G0 G1 H0 HB rd2 hb2 HG BZ LZ SZ hc2
  simp only [pcc] at *
  go_upto_region 2 with fail
  generalize w2.alloc (.cells #[.int .i64 Ps, .bool Pcc, .slice a2 Phs.length cap2, .string Px] 28) = wf at *
  obtain ⟨b, hb⟩ : ∃ b, w2.heap.size = b := ⟨_, rfl⟩
  rw [hb] at K1 hz8 hz ⊢
  clear hb
  have D0 := K1.out.cell 0
  have D1 := K1.out.cell 1
  have D2 := K1.out.cell 2
  have D3 := K1.out.cell 3
  simp at D0 D1 D2 D3
  have HWC := HWL wf a2 cap2 RDa.out
  clear HWL
  go_wp2_with fail
  go_at_call 10
  with_reducible refine HWC.mono ?_
  rintro e w3 ⟨a3, cap3, rfl, hc3, rd3, hb3⟩
  have HB3 : Hid (Below w.heap.size w w3) := HBa.out.trans (hb3.mono HBa.out.size)
  have J0 : Hid (Bk w3 w.heap.size (pcc 0 false (.slice none 0 0) ⟨#[]⟩) 28) := K0.out.next hb3
  have J1 : Hid (Bk w3 b (pcc Ps Pcc (.slice a2 Phs.length cap2) Px) 28) := K1.out.next hb3
  have R2 : Hid (Rd w3 a2 (pc Phs)) := RDa.out.below hb3
  have hz3 : w.heap.size < w3.heap.size := J0.out.lt
  have HQC := HQ w3 a3 cap3 ws hwl rd3 (HR.out.below HB3.out)
  clear D0 D1 D2 D3 HWC HBa RDa K0 K1 hb3 rd3 HR HQ hz9 hz8
  go_upto_region 5 with fail
  by_cases her : er = 0
  case neg =>
    have e9 : rs = (zp, 2) := HBAD.out fun h => her (Prod.mk.inj h).2
    subst e9
    have Z0 := J0.out.free 0
    have Z1 := J0.out.free 1
    have Z2 := J0.out.free 2
    have Z3 := J0.out.free 3
    have Y0 := J0.out.cell 0
    have Y1 := J0.out.cell 1
    have Y2 := J0.out.cell 2
    have Y3 := J0.out.cell 3
    simp at Y0 Y1 Y2 Y3
    clear HBAD HGOOD HQC J0 J1 R2
    go_wp2
    first
      | exact bodyPost_ret (v := .tuple #[pcv 0 false (.slice none 0 0) ByteArray.empty, .int .i64 2]) (by simp [results, Try.results21, go_sem, Y0, Y1, Y2, Y3]; try rfl) rfl ⟨none, ⟨0, rfl⟩, fun j u hj => by simp [pc] at hj, below_four HB3.out (Nat.le_refl _) _ _ _ _⟩
      | exact bodyPost_ret (v := .tuple #[pcv 0 false (.slice none 0 0) ByteArray.empty, .int .i64 2]) (by simp [results, Try.results21, go_sem, Y0, Y1, Y2, Y3]; try rfl) rfl ⟨none, 0, rfl, Nat.le_refl _, fun j u hj => by simp [pc] at hj, below_four HB3.out (Nat.le_refl _) _ _ _ _⟩
  subst her
  obtain ⟨q, hq⟩ : ∃ q, decide (ws = l) = q := ⟨_, rfl⟩
  rw [hq] at HQC
  go_wp2_with fail
  go_at_call 34
  with_reducible refine HQC.mono ?_
  rintro e w4 ⟨rfl, m, rfl⟩
  have HB4 : Hid (Below w.heap.size w (w3.drewN m)) := dn HB3.out m
  have I0 : Hid (Bk (w3.drewN m) w.heap.size (pcc 0 false (.slice none 0 0) ⟨#[]⟩) 28) := J0.out
  have I1 : Hid (Bk (w3.drewN m) b (pcc Ps Pcc (.slice a2 Phs.length cap2) Px) 28) := J1.out
  have R4 : Hid (Rd (w3.drewN m) a2 (pc Phs)) := R2.out
  have hz4 : w.heap.size < (w3.drewN m).heap.size := I0.out.lt
  have Z0 := I0.out.free 0
  have Z1 := I0.out.free 1
  have Z2 := I0.out.free 2
  have Z3 := I0.out.free 3
  have Y0 := I0.out.cell 0
  have Y1 := I0.out.cell 1
  have Y2 := I0.out.cell 2
  have Y3 := I0.out.cell 3
  have D0 := I1.out.cell 0
  have D1 := I1.out.cell 1
  have D2 := I1.out.cell 2
  have D3 := I1.out.cell 3
  simp only [pcc] at Y0 Y1 Y2 Y3 D0 D1 D2 D3
  generalize w3.drewN m = wz at *
  simp at Y0 Y1 Y2 Y3 D0 D1 D2 D3
  clear HQC J0 J1 R2 HB3
  cases q with
  | false =>
    have hne : ¬ ws = l := of_decide_eq_false hq
    have e9 : rs = (zp, 2) := HBAD.out fun h => hne (Prod.mk.inj h).1
    subst e9
    clear HBAD HGOOD hq hne
    go_wp2
    first
      | exact bodyPost_ret (v := .tuple #[pcv 0 false (.slice none 0 0) ByteArray.empty, .int .i64 2]) (by simp [results, Try.results21, go_sem, Y0, Y1, Y2, Y3]; try rfl) rfl ⟨none, ⟨0, rfl⟩, fun j u hj => by simp [pc] at hj, below_four HB4.out (Nat.le_refl _) _ _ _ _⟩
      | exact bodyPost_ret (v := .tuple #[pcv 0 false (.slice none 0 0) ByteArray.empty, .int .i64 2]) (by simp [results, Try.results21, go_sem, Y0, Y1, Y2, Y3]; try rfl) rfl ⟨none, 0, rfl, Nat.le_refl _, fun j u hj => by simp [pc] at hj, below_four HB4.out (Nat.le_refl _) _ _ _ _⟩
  | true =>
    have heq : ws = l := of_decide_eq_true hq
    have e9 : rs = (⟨Ps, Pcc, Phs, Px⟩, 0) := HGOOD.out (by rw [heq])
    subst e9
    clear HBAD HGOOD hq heq
    go_wp2
    refine bodyPost_ret (v := .tuple #[pcv Ps Pcc (.slice a2 Phs.length cap2) Px, .int .i64 0]) (by simp [results, Try.results21, go_sem, Y0, Y1, Y2, Y3]) rfl ⟨a2, cap2, rfl, HC2.out, ?_, below_four HB4.out (Nat.le_refl _) _ _ _ _⟩
    refine Rd.off R4.out I0.out _ (by simp) fun g hg => ?_
    rw [Below.heap_setCell _ _ _ g hg, Below.heap_setCell _ _ _ g hg, Below.heap_setCell _ _ _ g hg, Below.heap_setCell _ _ _ g hg]
end Go.Proofs.Ytnhfoojnokiboaa
