/-
  The walk of LaneTwo. (Written by gen_ktwo.py.)
-/
import Derived.Test.YtkigeakaedkjpaaKLives
import Derived.Test.YtkigeakaedkjpaaKTwoP
import Derived.Test.YtkigeakaedkjpaaKPassW
namespace Go.Proofs.Ytkigeakaedkjpaa
open Go.RowKit

/-- Heads' first node of a parcel for one. -/
theorem one_wds (s : Int) (x : ByteArray) (hs : List (Int × Int)) : ∃ D : Nat → Int, Wds (gd ⟨s, false, hs, x⟩).ws 1 D ∧ D 0 ≠ -1 := by
  have h := wds_fine (fine ⟨s, false, hs, x⟩)
  have hl : (gd ⟨s, false, hs, x⟩).hs.length = 1 := (gH_len false hs).2.2.resolve_left (by decide)
  rw [hl] at h
  exact ⟨_, h, md_first s false x hs⟩
abbrev ab2 (p0 p1 : Int) : Array Value := #[.int .i64 p0, .int .i64 p1]
theorem two_cells {v : World} {bA bB : Nat} {s1 s2 : Int} {a1 a2 : Option Addr} {n1 n2 cap1 cap2 : Nat} {x1 x2 : ByteArray} (p : Bk v bA #[.int .i64 s1, .bool false, .slice a1 n1 cap1, .string x1] 24) (k : Bk v bB #[.int .i64 s2, .bool false, .slice a2 n2 cap2, .string x2] 24) : v.cell? ⟨bA, 0, none⟩ = some (.int .i64 s1) ∧ v.cell? ⟨bA, 1, none⟩ = some (.bool false) ∧ v.cell? ⟨bA, 2, none⟩ = some (.slice a1 n1 cap1) ∧ v.cell? ⟨bA, 3, none⟩ = some (.string x1) ∧ v.cell? ⟨bB, 0, none⟩ = some (.int .i64 s2) ∧ v.cell? ⟨bB, 1, none⟩ = some (.bool false) ∧ v.cell? ⟨bB, 2, none⟩ = some (.slice a2 n2 cap2) ∧ v.cell? ⟨bB, 3, none⟩ = some (.string x2) :=
  ⟨(p.cell 0).trans rfl, (p.cell 1).trans rfl, (p.cell 2).trans rfl, (p.cell 3).trans rfl, (k.cell 0).trans rfl, (k.cell 1).trans rfl, (k.cell 2).trans rfl, (k.cell 3).trans rfl⟩
set_option maxRecDepth 100000 in
set_option maxHeartbeats 16000000 in
theorem two_law (s1 : Int) (c1 : Bool) (a1 : Option Addr) (cap1 : Nat) (x1 : ByteArray) (hs1 : List (Int × Int)) (s2 : Int) (c2 : Bool) (a2 : Option Addr) (cap2 : Nat) (x2 : ByteArray) (hs2 : List (Int × Int)) (p0 p1 : Int) (w : World)
    (hm1 : hs1.length ≤ maxLen) (hx1 : x1.size ≤ maxLen) (hr1 : Rd w a1 (pc hs1)) (hm2 : hs2.length ≤ maxLen) (hx2 : x2.size ≤ maxLen) (hr2 : Rd w a2 (pc hs2)) :
    Calls Try.prog 7 #[pcv s1 c1 (.slice a1 hs1.length cap1) x1, pcv s2 c2 (.slice a2 hs2.length cap2) x2, .agg #[.int .i64 p0, .int .i64 p1]] w fun e w' => e = .returned (.bool true) ∧ Below w.heap.size w w' := by
  obtain ⟨D1, d1, e1⟩ := one_wds s1 x1 hs1
  obtain ⟨D2, d2, e2⟩ := one_wds s2 x2 hs2
  have TT := TwoK.mk' d1 d2 e1 e2
  have WC1 : ∀ w', Rd w' a1 (pc hs1) → _ := fun w' h => kwords_any s1 false a1 cap1 x1 hs1 w' hm1 hx1 h
  have WC2 : ∀ w', Rd w' a2 (pc hs2) → _ := fun w' h => kwords_any s2 false a2 cap2 x2 hs2 w' hm2 hx2 h
  clear d1 d2 e1 e2 hm1 hm2 hx1 hx2 D1 D2
  generalize (gd ⟨s1, false, hs1, x1⟩).ws = L1 at *
  generalize (gd ⟨s2, false, hs2, x2⟩).ws = L2 at *
  obtain ⟨n1, hn1⟩ : ∃ n, hs1.length = n := ⟨_, rfl⟩
  obtain ⟨n2, hn2⟩ : ∃ n, hs2.length = n := ⟨_, rfl⟩
  rw [hn1] at WC1 ⊢
  rw [hn2] at WC2 ⊢
  have HR1 : Hid (Rd w a1 (pc hs1)) := hr1
  have HR2 : Hid (Rd w a2 (pc hs2)) := hr2
  have HW1 : Hid _ := WC1
  have HW2 : Hid _ := WC2
  have HT : Hid (TwoK L1 L2) := TT
  have P0 : Hid (_ ∧ _ ∧ _ ∧ _ ∧ _) := three_blocks w #[.int .i64 s1, .bool c1, .slice a1 n1 cap1, .string x1] #[.int .i64 s2, .bool c2, .slice a2 n2 cap2, .string x2] #[.int .i64 p0, .int .i64 p1] 24 24 58
  have NC := fun V => lane_new 64 V
  rw [show newK 64 = ⟨64, [], 0, 0, 0, false⟩ from rfl] at NC
  clear hr1 hr2 WC1 WC2 hn1 hn2 TT
  simp only [pcv, pcc] at *
  go_enter Try.func7, Try.ntmps7
  go_upto_region 1 with fail
  obtain ⟨k1, k2, k3, kb, kz⟩ := P0.out
  have LV := lives_any (((w.alloc (.cells #[.int .i64 s1, .bool c1, .slice a1 n1 cap1, .string x1] 24)).alloc (.cells #[.int .i64 s2, .bool c2, .slice a2 n2 cap2, .string x2] 24)).alloc (.cells #[.int .i64 p0, .int .i64 p1] 58))
  have K1 : Hid (Bk (((w.alloc (.cells #[.int .i64 s1, .bool c1, .slice a1 n1 cap1, .string x1] 24)).alloc (.cells #[.int .i64 s2, .bool c2, .slice a2 n2 cap2, .string x2] 24)).alloc (.cells #[.int .i64 p0, .int .i64 p1] 58)) w.heap.size #[.int .i64 s1, .bool c1, .slice a1 n1 cap1, .string x1] 24) := k1
  have K2 : Hid (Bk (((w.alloc (.cells #[.int .i64 s1, .bool c1, .slice a1 n1 cap1, .string x1] 24)).alloc (.cells #[.int .i64 s2, .bool c2, .slice a2 n2 cap2, .string x2] 24)).alloc (.cells #[.int .i64 p0, .int .i64 p1] 58)) (w.heap.size + 1) #[.int .i64 s2, .bool c2, .slice a2 n2 cap2, .string x2] 24) := k2
  have K3 : Hid (Bk (((w.alloc (.cells #[.int .i64 s1, .bool c1, .slice a1 n1 cap1, .string x1] 24)).alloc (.cells #[.int .i64 s2, .bool c2, .slice a2 n2 cap2, .string x2] 24)).alloc (.cells #[.int .i64 p0, .int .i64 p1] 58)) (w.heap.size + 1 + 1) #[.int .i64 p0, .int .i64 p1] 58) := k3
  have B0 : Hid (Below w.heap.size w (((w.alloc (.cells #[.int .i64 s1, .bool c1, .slice a1 n1 cap1, .string x1] 24)).alloc (.cells #[.int .i64 s2, .bool c2, .slice a2 n2 cap2, .string x2] 24)).alloc (.cells #[.int .i64 p0, .int .i64 p1] 58))) := kb
  clear P0 k1 k2 k3 kb kz
  generalize (((w.alloc (.cells #[.int .i64 s1, .bool c1, .slice a1 n1 cap1, .string x1] 24)).alloc (.cells #[.int .i64 s2, .bool c2, .slice a2 n2 cap2, .string x2] 24)).alloc (.cells #[.int .i64 p0, .int .i64 p1] 58)) = v0 at *
  obtain ⟨bA, hbA⟩ : ∃ x, w.heap.size = x := ⟨_, rfl⟩
  obtain ⟨bB, hbB⟩ : ∃ x, bA + 1 = x := ⟨_, rfl⟩
  obtain ⟨bC, hbC⟩ : ∃ x, bB + 1 = x := ⟨_, rfl⟩
  have HBA : Hid (w.heap.size = bA) := hbA
  rw [hbA, hbB, hbC] at K3
  rw [hbA, hbB] at K2
  rw [hbA] at K1 B0
  try rw [hbA, hbB, hbC]
  have hAB : bA < bB := by omega
  have hBC : bB < bC := by omega
  clear hbA hbB hbC
  go_wp2_with fail
  go_at_call 8
  with_reducible refine LV.mono ?_
  rintro e w1 ⟨rfl, hb1⟩
  have N1 := K1.out.next hb1
  have N2 : Hid (Bk w1 bB #[.int .i64 s2, .bool c2, .slice a2 n2 cap2, .string x2] 24) := K2.out.next hb1
  have N3 : Hid (Bk w1 bC #[.int .i64 p0, .int .i64 p1] 58) := K3.out.next hb1
  have B1 : Hid (Below bA w w1) := B0.out.trans (hb1.mono (Nat.le_of_lt K1.out.lt))
  have N1H : Hid (Bk w1 bA #[.int .i64 s1, .bool c1, .slice a1 n1 cap1, .string x1] 24) := N1
  have y1 := N1.cell 1
  have z1 := N1.free 1
  simp only [List.getElem?_toArray, List.getElem?_cons_zero, List.getElem?_cons_succ] at y1
  clear LV hb1 K1 K2 K3 B0 N1
  go_upto_region 4 with fail
  have M1 : Hid (Bk (w1.setCell ⟨bA, 1, none⟩ (.bool false)) bA #[.int .i64 s1, .bool false, .slice a1 n1 cap1, .string x1] 24) := show Bk _ _ _ _ from by simpa using N1H.out.set 1 (.bool false)
  have M2 : Bk (w1.setCell ⟨bA, 1, none⟩ (.bool false)) bB #[.int .i64 s2, .bool c2, .slice a2 n2 cap2, .string x2] 24 := N2.out.far (by omega)
  have M2H : Hid (Bk (w1.setCell ⟨bA, 1, none⟩ (.bool false)) bB #[.int .i64 s2, .bool c2, .slice a2 n2 cap2, .string x2] 24) := M2
  have M3 : Hid (Bk (w1.setCell ⟨bA, 1, none⟩ (.bool false)) bC #[.int .i64 p0, .int .i64 p1] 58) := N3.out.far (by omega)
  have B2 : Hid (Below bA w (w1.setCell ⟨bA, 1, none⟩ (.bool false))) := B1.out.setCell (Nat.le_refl _) _
  clear N1H N2 N3 B1 y1 z1
  generalize w1.setCell ⟨bA, 1, none⟩ (.bool false) = w2 at *
  have y1 := M2.cell 1
  have z1 := M2.free 1
  simp only [List.getElem?_toArray, List.getElem?_cons_zero, List.getElem?_cons_succ] at y1
  clear M2
  go_upto_region 5 with fail
  have Q1 : Bk (w2.setCell ⟨bB, 1, none⟩ (.bool false)) bA #[.int .i64 s1, .bool false, .slice a1 n1 cap1, .string x1] 24 := M1.out.far (by omega)
  have Q2 : Bk (w2.setCell ⟨bB, 1, none⟩ (.bool false)) bB #[.int .i64 s2, .bool false, .slice a2 n2 cap2, .string x2] 24 := by simpa using M2H.out.set 1 (.bool false)
  have Q3 : Hid (Bk (w2.setCell ⟨bB, 1, none⟩ (.bool false)) bC #[.int .i64 p0, .int .i64 p1] 58) := M3.out.far (by omega)
  have B3 : Hid (Below bA w (w2.setCell ⟨bB, 1, none⟩ (.bool false))) := B2.out.setCell (Nat.le_of_lt hAB) _
  clear M1 M2H M3 B2 y1 z1
  generalize w2.setCell ⟨bB, 1, none⟩ (.bool false) = w3 at *
  have R1 := Q1.next (Below.refl _ _).drew
  have R2 := Q2.next (Below.refl _ _).drew
  have S1 := two_cells R1 R2
  have G1 := HW1.out w3.drew (HR1.out.below (by rw [HBA.out]; exact B3.out.drew))
  go_wp2_with fail
  go_region_held3 (fun v => v.cell? ⟨bA, 0, none⟩ = some (.int .i64 s1) ∧ v.cell? ⟨bA, 1, none⟩ = some (.bool false) ∧ v.cell? ⟨bA, 2, none⟩ = some (.slice a1 n1 cap1) ∧ v.cell? ⟨bA, 3, none⟩ = some (.string x1) ∧ v.cell? ⟨bB, 0, none⟩ = some (.int .i64 s2) ∧ v.cell? ⟨bB, 1, none⟩ = some (.bool false) ∧ v.cell? ⟨bB, 2, none⟩ = some (.slice a2 n2 cap2) ∧ v.cell? ⟨bB, 3, none⟩ = some (.string x2))
    (first | exact S3 | exact S2 | exact S1 | go_keep)
    (first
      | (go_at_call_of 10 x1; (with_reducible refine G1.mono ?_); rintro e w4 ⟨la, ca, rfl, hla, rda, hba⟩; have R3 := R1.next hba; have R4 := R2.next hba; have S2 := two_cells R3 R4; have G2 := HW2.out w4 (HR2.out.below (by rw [HBA.out]; exact B3.out.drew.trans (hba.mono (Nat.le_of_lt R1.lt)))))
      | (go_at_call_of 10 x2; (with_reducible refine G2.mono ?_); rintro e w5 ⟨lb, cb, rfl, hlb, rdb, hbb⟩; have R5 := R3.next hbb; have R6 := R4.next hbb; have S3 := two_cells R5 R6)
      | fail)
  have B5 : Hid (Below bA w w5) := (B3.out.drew.trans (hba.mono (Nat.le_of_lt R1.lt))).trans (hbb.mono (Nat.le_of_lt R3.lt))
  have A5 : Below w5.heap.size w5 (w5.alloc (.cells #[.slice la L1.length ca, .slice lb L2.length cb] 27)) := (Below.refl _ _).alloc (Nat.le_refl _) _
  have RA : Hid (Rd (w5.alloc (.cells #[.slice la L1.length ca, .slice lb L2.length cb] 27)) la (vw L1)) := (rda.below hbb).below A5
  have RB : Hid (Rd (w5.alloc (.cells #[.slice la L1.length ca, .slice lb L2.length cb] 27)) lb (vw L2)) := rdb.below A5
  have AR : Hid (Bk (w5.alloc (.cells #[.slice la L1.length ca, .slice lb L2.length cb] 27)) bC #[.int .i64 p0, .int .i64 p1] 58) := ((Q3.out.next (Below.refl _ _).drew).next (hba.trans (hbb.mono hba.size))).alloc _
  have PB : Hid (Bk (w5.alloc (.cells #[.slice la L1.length ca, .slice lb L2.length cb] 27)) w5.heap.size #[.slice la L1.length ca, .slice lb L2.length cb] 27) := Bk.new _ _ _
  have B6 : Hid (Below bA w (w5.alloc (.cells #[.slice la L1.length ca, .slice lb L2.length cb] 27))) := B5.out.alloc (Nat.le_of_lt R5.lt) _
  have HCAP : Hid (L1.length ≤ ca ∧ L2.length ≤ cb) := ⟨hla, hlb⟩
  clear R1 R2 R3 R4 R5 R6 S1 S2 S3 G1 G2 hba hbb rda rdb B3 B5 A5 Q1 Q2 Q3 HR1 HR2 HW1 HW2 hla hlb
  have HX : Hid (∀ (i : Nat) (wr : World), i < 2 → Below (w5.alloc (.cells #[.slice la L1.length ca, .slice lb L2.length cb] 27)).heap.size (w5.alloc (.cells #[.slice la L1.length ca, .slice lb L2.length cb] 27)) wr → ∃ aa cc, wr.cell? ⟨w5.heap.size, i, none⟩ = some (.slice aa (llK L1 L2 i).length cc) ∧ (llK L1 L2 i).length ≤ cc ∧ Rd wr aa (vw (llK L1 L2 i))) := show _ from fun i wr hi hb => by
    have p := PB.out.next hb
    rcases two_cases hi with rfl | rfl
    · exact ⟨la, ca, (p.cell 0).trans rfl, HCAP.out.1, RA.out.below hb⟩
    · exact ⟨lb, cb, (p.cell 1).trans rfl, HCAP.out.2, RB.out.below hb⟩
  have HP : Hid (∀ (i : Nat) (wr : World), i < 2 → Below (w5.alloc (.cells #[.slice la L1.length ca, .slice lb L2.length cb] 27)).heap.size (w5.alloc (.cells #[.slice la L1.length ca, .slice lb L2.length cb] 27)) wr → ∃ pp, wr.cell? ⟨bC, i, none⟩ = some (.int .i64 pp)) := show _ from fun i wr hi hb => by
    have p := AR.out.next hb
    rcases two_cases hi with rfl | rfl
    · exact ⟨p0, (p.cell 0).trans rfl⟩
    · exact ⟨p1, (p.cell 1).trans rfl⟩
  clear RA RB AR PB HCAP
  generalize w5.alloc (.cells #[.slice la L1.length ca, .slice lb L2.length cb] 27) = u0 at *
  generalize w5.heap.size = pb at *
  go_wp2_with fail
  go_at_call 11
  with_reducible refine (NC _).mono ?_
  rintro e w6 ⟨b, F0, rfl, m0, f0, hb6⟩
  have L0 : Hid (KSt u0 w6 b ⟨64, befK L1 L2 0, 0, 0, 0, false⟩ F0) := show KSt u0 w6 b _ F0 from ⟨m0, f0, hb6⟩
  clear NC m0 f0 hb6
  go_wp2_with fail
  go_loopw [9] (fun x wr => ∃ (i : Nat) (F : Nat → Prop), i ≤ 2 ∧ x = .int .i64 i ∧ KSt u0 wr b ⟨64, befK L1 L2 i, 0, 0, 0, false⟩ F) (fun x _ => 2 - (RowKit.intOf x).toNat)
  case atStart => exact ⟨0, F0, by omega, rfl, L0.out⟩
  case round =>
    obtain ⟨i, F, hi, rfl, l⟩ := hrel
    clear L0
    have LI : Hid (KSt u0 wr b ⟨64, befK L1 L2 i, 0, 0, 0, false⟩ F) := l
    clear l
    by_cases hex : i < 2
    case neg =>
      obtain rfl : i = 2 := by omega
      have LS : Hid (KSt u0 wr b ⟨64, sufK L1 L2 0, 0, 0, 0, false⟩ F) := show KSt _ _ _ _ _ from by
        have := LI.out
        rwa [HT.out.all] at this
      have hz : ¬ ((2 : Nat) : Int) < 2 := by omega
      clear LI
      go_wp2_with fail
      go_loopw [11] (fun x wr => ∃ (i : Nat) (F : Nat → Prop), i ≤ 2 ∧ x = .int .i64 i ∧ KSt u0 wr b ⟨64, sufK L1 L2 i, 0, 0, 0, false⟩ F) (fun x _ => 2 - (RowKit.intOf x).toNat)
      case atStart => exact ⟨0, F, by omega, rfl, LS.out⟩
      case round =>
        obtain ⟨i, G, hi, rfl, l⟩ := hrel
        clear LS
        have LI : Hid (KSt u0 wr b ⟨64, sufK L1 L2 i, 0, 0, 0, false⟩ G) := l
        clear l
        by_cases hex : i < 2
        case neg =>
          obtain rfl : i = 2 := by omega
          have C1 := lane_len LI.out.lk
          rw [show (sufK L1 L2 2).length = 0 from rfl] at C1
          go_wp2_with fail
          go_at_call 21
          with_reducible refine C1.mono ?_
          rintro e v1 ⟨rfl, hb⟩
          have BB : Hid (Below w.heap.size w v1) := show Below _ _ _ from by
            rw [HBA.out]
            exact B6.out.trans ((LI.out.next hb).below.mono (by have := B6.out.size; rw [← HBA.out]; exact this))
          clear C1 LI hb
          go_wp2
          go_ret
          exact ⟨rfl, BB.out⟩
        have e1 : (i : Int) < 2 := by omega
        have e0 : (0 : Int) ≤ (i : Int) := by omega
        have e2 : IntKind.i64.wrap ((i : Int) + 1) = ((i + 1 : Nat) : Int) := by rw [IntWalk.i64_in _ (by omega)]; omega
        obtain ⟨pp, hp0⟩ := HP.out i wr hex LI.out.below
        obtain ⟨q, hq, q0, q4, hq2⟩ := port_in pp
        obtain ⟨pt, hpt⟩ : ∃ pt, 1 + q = pt := ⟨_, rfl⟩
        have hpt' : IntKind.i64.wrap (1 + q) = pt := by rw [hq2]; exact hpt
        have hp : 1 ≤ pt ∧ pt ≤ 4 := by omega
        have hp1 : 1 ≤ pt := hp.1
        obtain ⟨n, hn⟩ : ∃ n, (llK L1 L2 i).length = n := ⟨_, rfl⟩
        have hn17 : n ≤ 17 := by have := (HT.out.len i hex).2; omega
        have hn0 : 0 < n := by have := (HT.out.len i hex).1; omega
        have HI : Hid (∀ wr, Below u0.heap.size u0 wr → ∃ aa cc, wr.cell? ⟨pb, i, none⟩ = some (.slice aa n cc) ∧ n ≤ cc ∧ Rd wr aa (vw (llK L1 L2 i))) := show _ from fun wr hb => by
          have := HX.out i wr hex hb
          rwa [hn] at this
        have HN : Hid ((llK L1 L2 i).length = n) := hn
        have HEX : Hid (i < 2) := hex
        have HPF : Hid (findK ⟨64, sufK L1 L2 i, 0, 0, 0, false⟩ (-1) pt = (⟨64, sufK L1 L2 i, 1, pt, 0, false⟩, true)) := show _ = _ from HT.out.find i pt hex hp
        have HPG : Hid (giveK ⟨64, sufK L1 L2 i, 1, pt, 0, false⟩ (i : Int) = (passK 64 (llK L1 L2 i) (sufK L1 L2 (i + 1)) pt (i : Int) 0, true)) := show _ = _ from HT.out.give i pt (i : Int) hex
        have HPT : Hid (∀ k, k < n → takeK (passK 64 (llK L1 L2 i) (sufK L1 L2 (i + 1)) pt (i : Int) k) = (passK 64 (llK L1 L2 i) (sufK L1 L2 (i + 1)) pt (i : Int) (k + 1), ⟨pt, (i : Int), (llK L1 L2 i).getD k 0, false, decide (k + 1 = (llK L1 L2 i).length)⟩, 0)) := show _ from fun k hk => HT.out.take i pt (i : Int) k hex hp1 (by rw [hn]; exact hk)
        have HPE : Hid (passK 64 (llK L1 L2 i) (sufK L1 L2 (i + 1)) pt (i : Int) n = ⟨64, sufK L1 L2 (i + 1), 0, 0, 0, false⟩) := show _ = _ from by rw [← hn]; exact HT.out.fin i pt (i : Int) hex
        have HP0 : Hid (passK 64 (llK L1 L2 i) (sufK L1 L2 (i + 1)) pt (i : Int) 0 = ⟨64, (llK L1 L2 i).drop 0 ++ sufK L1 L2 (i + 1), 2, pt, (i : Int), false⟩) := show _ = _ from by unfold passK; rw [if_pos (by omega)]
        clear hn hex hi hpt hq2 hp
        go_wp2_with fail
        go_at_call 14
        with_reducible refine (by_any pt _).mono ?_
        rintro e v1 ⟨bb, rfl, wy, hb⟩
        have C1 := lane_find (LI.out.next hb).lk (-1) pt _ _ wy
        rw [HPF.out] at C1
        have H1 : Hid (KSt u0 v1 b ⟨64, sufK L1 L2 i, 0, 0, 0, false⟩ G) := LI.out.next hb
        clear LI wy hb hp0
        go_wp2_with fail
        go_at_call 13
        with_reducible refine C1.mono ?_
        rintro e v2 ⟨F2, rfl, m2, g2⟩
        have H2 : Hid (KSt u0 v2 b ⟨64, sufK L1 L2 i, 1, pt, 0, false⟩ F2) := H1.out.step m2 g2
        have C2 := lane_give H2.out.lk (i : Int)
        rw [HPG.out] at C2
        clear C1 H1 m2 g2
        go_wp2_with fail
        go_at_call 18
        with_reducible refine C2.mono ?_
        rintro e v3 ⟨F3, rfl, m3, g3⟩
        have H3 : Hid (KSt u0 v3 b (passK 64 (llK L1 L2 i) (sufK L1 L2 (i + 1)) pt (i : Int) 0) F3) := H2.out.step m3 g3
        have C3 := lane_port H3.out.lk
        rw [HP0.out] at C3
        simp only at C3
        clear C2 H2 m3 g3
        go_wp2_with fail
        go_at_call 16
        with_reducible refine C3.mono ?_
        rintro e v4 ⟨rfl, hb4⟩
        have H4 : Hid (KSt u0 v4 b (passK 64 (llK L1 L2 i) (sufK L1 L2 (i + 1)) pt (i : Int) 0) F3) := H3.out.next hb4
        have C4 := lane_given H4.out.lk
        rw [HP0.out] at C4
        simp only at C4
        clear C3 H3 hb4
        go_wp2_with fail
        go_at_call 25
        with_reducible refine C4.mono ?_
        rintro e v5 ⟨rfl, hb5⟩
        have H5 : Hid (KSt u0 v5 b (passK 64 (llK L1 L2 i) (sufK L1 L2 (i + 1)) pt (i : Int) 0) F3) := H4.out.next hb5
        clear C4 H4 hb5 HP0 HPF HPG
        go_wp2_with fail
        go_loopw [13] (fun x wr => ∃ (k : Nat) (F : Nat → Prop), k ≤ n ∧ x = .int .i64 k ∧ KSt u0 wr b (passK 64 (llK L1 L2 i) (sufK L1 L2 (i + 1)) pt (i : Int) k) F) (fun x _ => n - (RowKit.intOf x).toNat)
        case atStart => exact ⟨0, F3, Nat.zero_le _, rfl, H5.out⟩
        case round =>
          obtain ⟨k, K, hk, rfl, l⟩ := hrel
          clear H5
          have LK : Hid (KSt u0 wr b (passK 64 (llK L1 L2 i) (sufK L1 L2 (i + 1)) pt (i : Int) k) K) := l
          clear l
          obtain ⟨aa, cc, h0, h1, rd⟩ := HI.out wr LK.out.below
          by_cases hex2 : k < n
          case neg =>
            obtain rfl : k = n := by omega
            have E1 : Hid (KSt u0 wr b ⟨64, sufK L1 L2 (i + 1), 0, 0, 0, false⟩ K) := show KSt _ _ _ _ _ from by
              have := LK.out
              rwa [HPE.out] at this
            have e3 : ¬ (k : Int) < (k : Int) := by omega
            have C1 := lane_phase E1.out.lk
            simp only at C1
            clear LK rd h1
            go_wp2_with fail
            go_at_call 15
            with_reducible refine C1.mono ?_
            rintro e v6 ⟨rfl, hb6⟩
            have E2 : Hid (KSt u0 v6 b ⟨64, sufK L1 L2 (i + 1), 0, 0, 0, false⟩ K) := E1.out.next hb6
            clear C1 E1 hb6 h0
            go_wp2
            go_roundw
            case rel => exact ⟨i + 1, K, by have := HEX.out; omega, by go_num, E2.out⟩
            case measure => have := HEX.out; simp [RowKit.intOf]; omega
          obtain ⟨g, o, rfl, hg, k0⟩ := rd k _ (vw_at (by rw [HN.out]; exact hex2))
          have e3 : (k : Int) < (n : Int) := by omega
          have e4 : (0 : Int) ≤ (k : Int) := by omega
          have e5 : IntKind.i64.wrap ((k : Int) + 1) = ((k + 1 : Nat) : Int) := by rw [IntWalk.i64_in _ (by omega)]; omega
          have C1 := lane_take LK.out.lk
          rw [HPT.out k hex2] at C1
          simp only [kov, koc] at C1
          obtain ⟨tlb, htl⟩ : ∃ t, decide (k + 1 = (llK L1 L2 i).length) = t := ⟨_, rfl⟩
          rw [htl] at C1
          have HY : Hid (∀ v, Below u0.heap.size u0 v → ∃ aa cc g o, v.cell? ⟨pb, i, none⟩ = some (.slice (some ⟨g, o, none⟩) n cc) ∧ n ≤ cc ∧ aa = some (Addr.mk g o none) ∧ v.cell? ⟨g, o + k, none⟩ = some (.int .u64 (((llK L1 L2 i).getD k 0 : Nat) : Int))) := show _ from fun v hb => by
            obtain ⟨aa, cc, h0, h1, rd⟩ := HI.out v hb
            obtain ⟨g, o, rfl, hg, k0⟩ := rd k _ (vw_at (by rw [HN.out]; exact hex2))
            exact ⟨_, cc, g, o, h0, h1, rfl, k0⟩
          obtain ⟨y, hy⟩ : ∃ y : Int, (((llK L1 L2 i).getD k 0 : Nat) : Int) = y := ⟨_, rfl⟩
          rw [hy] at C1 HY
          have HS : Hid (∀ w' F', Kn w' b (passK 64 (llK L1 L2 i) (sufK L1 L2 (i + 1)) pt (i : Int) (k + 1)) F' → Gr K wr w' F' → KSt u0 w' b (passK 64 (llK L1 L2 i) (sufK L1 L2 (i + 1)) pt (i : Int) (k + 1)) F') := show _ from fun w' F' n g => LK.out.step n g
          clear hy htl LK rd k0
          go_upto_region 25 with (go_at_call 19; with_reducible refine C1.mono ?_; rintro e v6 ⟨K1, rfl, m6, g6⟩)
          have J1 : Hid (KSt u0 (v6.alloc (.cells #[.int .i64 pt, .int .i64 (i : Int), .int .u64 y, .bool false, .bool tlb] 43)) b (passK 64 (llK L1 L2 i) (sufK L1 L2 (i + 1)) pt (i : Int) (k + 1)) K1) := (HS.out _ _ m6 g6).alloc _
          have A1 : Bk (v6.alloc (.cells #[.int .i64 pt, .int .i64 (i : Int), .int .u64 y, .bool false, .bool tlb] 43)) v6.heap.size #[.int .i64 pt, .int .i64 (i : Int), .int .u64 y, .bool false, .bool tlb] 43 := Bk.new _ _ _
          clear C1 HS m6 g6 h0 h1
          obtain ⟨aa2, cc2, g2, o2, h0, h1, -, k1⟩ := HY.out _ J1.out.below
          generalize v6.alloc (.cells #[.int .i64 pt, .int .i64 (i : Int), .int .u64 y, .bool false, .bool tlb] 43) = v7 at *
          generalize v6.heap.size = kb at *
          have c0 := A1.cell 0
          have c1' := A1.cell 1
          have c2' := A1.cell 2
          have c3 := A1.cell 3
          simp only [List.getElem?_toArray, List.getElem?_cons_zero, List.getElem?_cons_succ] at c0 c1' c2' c3
          clear A1 HY
          go_wp2_with fail
          go_quiet (fail)
          have J2 : Hid (KSt u0 (v7.drewN nq) b (passK 64 (llK L1 L2 i) (sufK L1 L2 (i + 1)) pt (i : Int) (k + 1)) K1) := J1.out.drewN nq
          clear c0 c1' c2' c3 J1 h0 h1 k1
          go_wp2
          go_roundw
          case rel => exact ⟨k + 1, K1, by omega, by go_num, J2.out⟩
          case measure => simp [RowKit.intOf]; omega
    have e1 : (i : Int) < 2 := by omega
    have e0 : (0 : Int) ≤ (i : Int) := by omega
    have e2 : IntKind.i64.wrap ((i : Int) + 1) = ((i + 1 : Nat) : Int) := by rw [IntWalk.i64_in _ (by omega)]; omega
    obtain ⟨n, hn⟩ : ∃ n, (llK L1 L2 i).length = n := ⟨_, rfl⟩
    have hn17 : n ≤ 17 := by have := (HT.out.len i hex).2; omega
    have HI : Hid (∀ wr, Below u0.heap.size u0 wr → ∃ aa cc, wr.cell? ⟨pb, i, none⟩ = some (.slice aa n cc) ∧ n ≤ cc ∧ Rd wr aa (vw (llK L1 L2 i))) := show _ from fun wr hb => by
      have := HX.out i wr hex hb
      rwa [hn] at this
    have HN : Hid ((llK L1 L2 i).length = n) := hn
    have HEX : Hid (i < 2) := hex
    clear hn hex hi
    go_wp2_with fail
    go_loopw [10] (fun x wr => ∃ (k : Nat) (F : Nat → Prop), k ≤ n ∧ x = .int .i64 k ∧ KSt u0 wr b ⟨64, befK L1 L2 i ++ (llK L1 L2 i).take k, 0, 0, 0, false⟩ F) (fun x _ => n - (RowKit.intOf x).toNat)
    case atStart => exact ⟨0, F, Nat.zero_le _, rfl, by simpa using LI.out⟩
    case round =>
      rename_i wr2
      obtain ⟨k, G, hk, rfl, l⟩ := hrel
      clear LI
      have LK : Hid (KSt u0 wr b ⟨64, befK L1 L2 i ++ (llK L1 L2 i).take k, 0, 0, 0, false⟩ G) := l
      clear l
      obtain ⟨aa, cc, h0, h1, rd⟩ := HI.out wr LK.out.below
      by_cases hex2 : k < n
      case neg =>
        obtain rfl : k = n := by omega
        have E1 : Hid (KSt u0 wr b ⟨64, befK L1 L2 (i + 1), 0, 0, 0, false⟩ G) := show KSt _ _ _ _ _ from by
          have := LK.out
          rw [← HN.out, List.take_length, HT.out.bef i HEX.out] at this
          exact this
        have e3 : ¬ (k : Int) < (k : Int) := by omega
        clear LK rd h1
        go_wp2
        go_roundw
        case rel => exact ⟨i + 1, G, by have := HEX.out; omega, by go_num, E1.out⟩
        case measure => have := HEX.out; simp [RowKit.intOf]; omega
      obtain ⟨g, o, rfl, hg, k0⟩ := rd k _ (vw_at (by rw [HN.out]; exact hex2))
      have e3 : (k : Int) < (n : Int) := by omega
      have e4 : (0 : Int) ≤ (k : Int) := by omega
      have e5 : IntKind.i64.wrap ((k : Int) + 1) = ((k + 1 : Nat) : Int) := by rw [IntWalk.i64_in _ (by omega)]; omega
      have PC := lane_put LK.out.lk ((llK L1 L2 i).getD k 0) (HT.out.lt i k HEX.out (by rw [HN.out]; exact hex2))
      rw [HT.out.put i k HEX.out (by rw [HN.out]; exact hex2)] at PC
      simp only at PC
      have HS : Hid (∀ w' F', Kn w' b ⟨64, befK L1 L2 i ++ (llK L1 L2 i).take (k + 1), 0, 0, 0, false⟩ F' → Gr G wr w' F' → KSt u0 w' b ⟨64, befK L1 L2 i ++ (llK L1 L2 i).take (k + 1), 0, 0, 0, false⟩ F') := show _ from fun w' F' n g => LK.out.step n g
      obtain ⟨y, hy⟩ : ∃ y : Int, (((llK L1 L2 i).getD k 0 : Nat) : Int) = y := ⟨_, rfl⟩
      rw [hy] at k0 PC
      clear hy LK rd
      go_wp2_with fail
      go_at_call 12
      with_reducible refine PC.mono ?_
      rintro e v1 ⟨F', rfl, n4, g4⟩
      have L4 : Hid (KSt u0 v1 b ⟨64, befK L1 L2 i ++ (llK L1 L2 i).take (k + 1), 0, 0, 0, false⟩ F') := HS.out _ _ n4 g4
      clear PC HS n4 g4 k0 h0
      go_wp2
      go_roundw
      case rel => exact ⟨k + 1, F', by omega, by go_num, L4.out⟩
      case measure => simp [RowKit.intOf]; omega
end Go.Proofs.Ytkigeakaedkjpaa
