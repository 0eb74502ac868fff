/-
  The program's inbox: a packet is told.
-/
import Derived.Test.YtpmkpjnhdehnhaaICome
import Derived.StillTailTactics
namespace Go.Proofs.Ytpmkpjnhdehnhaa
open Go.RowKit

theorem wrap_small {a : Int} (h0 : -1000000 ≤ a) (h1 : a ≤ 1000000) : IntKind.i64.wrap a = a := (IntWalk.i64_left a).trans (IntWalk.wrap64_in a (by omega))
theorem push_rp {S : IS} {s : RP.RingSt} (ok : IOk S) (hr : s.room = (S.n : Int)) (hl : s.laid = false) (hx : s.xs = S.L) (h : S.L.length < S.n) (p : Pk) :
    RP.layE s = 0 ∧ (RP.pushS s p).room = s.room ∧ (RP.pushS s p).laid = false ∧ (RP.pushS s p).xs = S.L ++ [p] := by
  have n1 := ok.n1
  have n64 := ok.n64
  have hfree : s.free = (S.n : Int) - (S.L.length : Int) := by
    rw [RP.RingSt.free, hr, hl, hx]
    simp [RP.one]
    omega
  have e : RP.layE s = 0 := by
    unfold RP.layE
    rw [hl, hfree, if_neg (by decide), if_neg (by omega)]
  unfold RP.pushS
  rw [e, if_pos rfl]
  exact ⟨rfl, rfl, rfl, by show s.xs ++ [p] = S.L ++ [p]; rw [hx]⟩
set_option maxRecDepth 100000 in
set_option maxHeartbeats 4000000 in
/-- None is told: nothing that was there turns. -/
theorem tell_no {w : World} {b : Nat} {S : IS} {F : Nat → Prop} (h : In w b S F) (hno : tellB S = false) : Calls Try.prog 19 #[.pointer (some ⟨b, 0, none⟩)] w fun e w' => e = .returned (.bool false) ∧ Below w.heap.size w w' := by
  obtain ⟨ok, r, pr, mr, sr, mb, nb, N, hA, rfl⟩ := h
  have OK : Hid (IOk S) := ok
  have K := ilook_blk hA.blk
  have HA : Hid (InAt w b S r pr mr sr mb nb N) := hA
  obtain ⟨X, hX⟩ : ∃ X : Int, X = (S.n : Int) - (S.L.length : Int) := ⟨_, rfl⟩
  have RM : Hid (∀ V : World, InAt V b S r pr mr sr mb nb N → Calls Try.prog 32 #[.pointer (some ⟨r, 0, none⟩)] V fun e w' => e = .returned (.int .i64 X) ∧ ∃ n, w' = V.drewN n) := show _ from fun V hV => by
    have := RP.ring_room hV.rg
    have e : sr.free = X := by
      have h1 := OK.out.n1
      have h2 := OK.out.n64
      rw [RP.RingSt.free, hV.room, hV.laid, hV.xs, hX]
      simp [RP.one]
      omega
    rwa [e] at this
  have L : Hid (∀ V : World, InAt V b S r pr mr sr mb nb N → Calls Try.prog 33 #[.agg (sti r mb nb)] V fun e w' => e = .returned (fstV (rdy S)) ∧ Below V.heap.size V w') := show _ from fun V hV => first_any V hV.mp hV.np OK.out.rng OK.out.ap hV.nk hV.nx
  clear hA
  by_cases hroom : S.L.length < S.n
  · have hx0 : (X == 0) = false := by rw [hX]; simp; omega
    have hrd : rdy S = none := by
      cases hc : rdy S with
      | none => rfl
      | some p =>
        unfold tellB at hno
        rw [hc] at hno
        simp [hroom] at hno
    rw [hrd] at L
    clear hno hX ok hroom hrd
    simp only [fstV, fs, fq, Option.isSome_none] at L
    have nF : Hid (∀ g, w.heap.size ≤ g → ¬ fi b r pr mb nb g) := show _ from fun g hg c => by have := HA.out.lt g c; omega
    simp only [sti, mkv] at *
    go_enter Try.func19, Try.ntmps19
    go_upto_region 2 with (go_at_call 30; with_reducible refine K.mono ?_; rintro e w1 ⟨rfl, hb1⟩)
    have K2 : Hid (InAt (w1.alloc (.cells #[.pointer (some ⟨r, 0, none⟩), .map (some mb), .map (some nb)] 67)) b S r pr mr sr mb nb N) := HA.out.next (hb1.alloc hb1.size _)
    have S2 : Hid (Bk (w1.alloc (.cells #[.pointer (some ⟨r, 0, none⟩), .map (some mb), .map (some nb)] 67)) w1.heap.size #[.pointer (some ⟨r, 0, none⟩), .map (some mb), .map (some nb)] 67) := Bk.new _ _ _
    have B2 : Hid (Below w.heap.size w (w1.alloc (.cells #[.pointer (some ⟨r, 0, none⟩), .map (some mb), .map (some nb)] 67))) := hb1.alloc hb1.size _
    have hcw : w.heap.size ≤ w1.heap.size := hb1.size
    clear HA K hb1
    generalize w1.alloc (.cells #[.pointer (some ⟨r, 0, none⟩), .map (some mb), .map (some nb)] 67) = v at *
    generalize w1.heap.size = c at *
    have s0 := S2.out.cell 0
    simp only [List.getElem?_toArray, List.getElem?_cons_zero] at s0
    go_upto_region 4 with (go_at_call 32; with_reducible refine (RM.out _ K2.out).mono ?_; rintro e w2 ⟨rfl, n, rfl⟩)
    have K3 : Hid (InAt (v.drewN n) b S r pr mr sr mb nb N) := K2.out.next (dn (Below.refl _ _) n)
    have S3 : Hid (Bk (v.drewN n) c #[.pointer (some ⟨r, 0, none⟩), .map (some mb), .map (some nb)] 67) := S2.out.next (dn (Below.refl _ _) n)
    have B3 : Hid (Below w.heap.size w (v.drewN n)) := dn B2.out n
    clear K2 S2 B2 s0 RM
    generalize v.drewN n = v3 at *
    have s0 := S3.out.cell 0
    have s1 := S3.out.cell 1
    have s2 := S3.out.cell 2
    simp only [List.getElem?_toArray, List.getElem?_cons_zero, List.getElem?_cons_succ] at s0 s1 s2
    go_wp2_with (go_at_call 33; with_reducible refine (L.out _ K3.out).mono ?_; rintro e w4 ⟨rfl, hb4⟩)
    go_ret
    have bb := hb4.alloc hb4.size (.cells #[.int .i64 0, .int .i64 0] 72)
    exact ⟨rfl, B3.out.trans (bb.mono B3.out.size)⟩
  · have hx0 : (X == 0) = true := by
      have := OK.out.len
      rw [hX]
      simp
      omega
    clear hno hX ok hroom L
    have nF : Hid (∀ g, w.heap.size ≤ g → ¬ fi b r pr mb nb g) := show _ from fun g hg c => by have := HA.out.lt g c; omega
    simp only [sti] at *
    go_enter Try.func19, Try.ntmps19
    go_upto_region 2 with (go_at_call 30; with_reducible refine K.mono ?_; rintro e w1 ⟨rfl, hb1⟩)
    have K2 : Hid (InAt (w1.alloc (.cells #[.pointer (some ⟨r, 0, none⟩), .map (some mb), .map (some nb)] 67)) b S r pr mr sr mb nb N) := HA.out.next (hb1.alloc hb1.size _)
    have S2 : Hid (Bk (w1.alloc (.cells #[.pointer (some ⟨r, 0, none⟩), .map (some mb), .map (some nb)] 67)) w1.heap.size #[.pointer (some ⟨r, 0, none⟩), .map (some mb), .map (some nb)] 67) := Bk.new _ _ _
    have B2 : Hid (Below w.heap.size w (w1.alloc (.cells #[.pointer (some ⟨r, 0, none⟩), .map (some mb), .map (some nb)] 67))) := hb1.alloc hb1.size _
    have hcw : w.heap.size ≤ w1.heap.size := hb1.size
    clear HA K hb1
    generalize w1.alloc (.cells #[.pointer (some ⟨r, 0, none⟩), .map (some mb), .map (some nb)] 67) = v at *
    generalize w1.heap.size = c at *
    have s0 := S2.out.cell 0
    simp only [List.getElem?_toArray, List.getElem?_cons_zero] at s0
    go_wp2_with (go_at_call 32; with_reducible refine (RM.out _ K2.out).mono ?_; rintro e w2 ⟨rfl, n, rfl⟩)
    go_ret
    exact ⟨rfl, dn B2.out n⟩
set_option maxRecDepth 100000 in
set_option maxHeartbeats 4000000 in
theorem tell_yes {w : World} {b : Nat} {S : IS} {F : Nat → Prop} (h : In w b S F) (hyes : tellB S = true) : Calls Try.prog 19 #[.pointer (some ⟨b, 0, none⟩)] w fun e w' => ∃ F', e = .returned (.bool true) ∧ In w' b (tellS S) F' ∧ Gr F w w' F' := by
  obtain ⟨ok, r, pr, mr, sr, mb, nb, N, hA, rfl⟩ := h
  have OK : Hid (IOk S) := ok
  have K := ilook_blk hA.blk
  have HA : Hid (InAt w b S r pr mr sr mb nb N) := hA
  obtain ⟨X, hX⟩ : ∃ X : Int, X = (S.n : Int) - (S.L.length : Int) := ⟨_, rfl⟩
  have RM : Hid (∀ V : World, InAt V b S r pr mr sr mb nb N → Calls Try.prog 32 #[.pointer (some ⟨r, 0, none⟩)] V fun e w' => e = .returned (.int .i64 X) ∧ ∃ n, w' = V.drewN n) := show _ from fun V hV => by
    have := RP.ring_room hV.rg
    have e : sr.free = X := by
      have h1 := OK.out.n1
      have h2 := OK.out.n64
      rw [RP.RingSt.free, hV.room, hV.laid, hV.xs, hX]
      simp [RP.one]
      omega
    rwa [e] at this
  have L : Hid (∀ V : World, InAt V b S r pr mr sr mb nb N → Calls Try.prog 33 #[.agg (sti r mb nb)] V fun e w' => e = .returned (fstV (rdy S)) ∧ Below V.heap.size V w') := show _ from fun V hV => first_any V hV.mp hV.np OK.out.rng OK.out.ap hV.nk hV.nx
  clear hA
  have TC := tell_cases S
  have hroom : S.L.length < S.n := by
    unfold tellB at hyes
    simp at hyes
    exact hyes.1
  have hx0 : (X == 0) = false := by rw [hX]; simp; omega
  obtain ⟨p, hrd⟩ : ∃ p, rdy S = some p := by
    unfold tellB at hyes
    simp at hyes
    exact Option.isSome_iff_exists.1 hyes.2
  clear hyes
  have e12 : tellS S = told S p ∧ tellB S = true := by
    rcases TC with ⟨_, ⟨hp, _⟩ | ⟨q, hp, h⟩⟩ | ⟨h, _⟩
    · rw [hrd] at hp; cases hp
    · rw [hrd] at hp; cases hp; exact h
    · exact absurd hroom h
  rw [e12.1]
  rw [hrd] at L
  have pW := (pick_some hrd).1
  have pR := OK.out.rng p pW
  have OKT : Hid (IOk (told S p)) := OK.out.told hroom
  have LW : Hid (∀ V : World, InAt V b S r pr mr sr mb nb N → (Instr.lookup 64 (.map (some mb)) (mkv p.s p.q) false).run Try.prog V = .ok (pkv p) V) := show _ from fun V hV => look_wait hV.mp OK.out.rng pW false
  have PU : Hid (∀ V : World, InAt V b S r pr mr sr mb nb N → Calls Try.prog 34 #[.pointer (some ⟨r, 0, none⟩), pkv p] V fun e w' => e = .returned (.int .i64 0) ∧ ∃ pr' mr' sr', InAt w' b { S with L := S.L ++ [p] } r pr' mr' sr' mb nb N ∧ Gr (fi b r pr mb nb) V w' (fi b r pr' mb nb)) := show _ from fun V hV => by
    obtain ⟨k1, k2, k3, k4⟩ := push_rp OK.out hV.room hV.laid hV.xs hroom p
    refine (RP.ring_push hV.rg p).mono ?_
    rintro e w' ⟨rfl, hs⟩
    rw [k1]
    obtain ⟨pr', mr', h1, h2⟩ := hV.step hs k2 k3 k4
    exact ⟨rfl, pr', mr', _, h1, h2⟩
  have DE : Hid (∀ (V : World) (pr' mr' : Nat) (sr' : RP.RingSt) (ty : TypeId), InAt V b { S with L := S.L ++ [p] } r pr' mr' sr' mb nb N → ∃ w', (Builtin.delete_ #[64, 72] ty #[.map (some mb), mkv p.s p.q]).run Try.prog V = .ok (.tuple #[]) w' ∧ InAt w' b { S with L := S.L ++ [p], W := strike S.W p } r pr' mr' sr' mb nb N ∧ Gr (fi b r pr' mb nb) V w' (fi b r pr' mb nb)) := show _ from fun V pr' mr' sr' ty hV => by
    obtain ⟨w', r1, r2, r3⟩ := del_wait hV.mp OK.out.rng OK.out.ap pW ty
    obtain ⟨h1, h2⟩ := hV.wait r3 r2
    exact ⟨w', r1, h1, h2⟩
  obtain ⟨Q, hQ⟩ : ∃ Q : Int, Q = (p.q + 1) % 65536 := ⟨_, rfl⟩
  have NU : Hid (∀ (V : World) (pr' mr' : Nat) (sr' : RP.RingSt), InAt V b { S with L := S.L ++ [p], W := strike S.W p } r pr' mr' sr' mb nb N → ∃ w' N', (Instr.mapUpdate 65 (.map (some nb)) (.int .i64 p.s) (.int .i64 Q)).run Try.prog V = .ok () w' ∧ InAt w' b (told S p) r pr' mr' sr' mb nb N' ∧ Gr (fi b r pr' mb nb) V w' (fi b r pr' mb nb)) := show _ from fun V pr' mr' sr' hV => by
    obtain ⟨w', N', r1, r2, r3, r4, r5⟩ := put_next (q := Q) hV.np hV.nk pR.1 pR.2.1
    obtain ⟨h1, h2⟩ := hV.number (nx' := upd S.nx p.s ((p.q + 1) % 65536)) r3 r2 (fun s => by
      rw [r5 s, hQ]
      unfold upd
      by_cases c : s = p.s
      · rw [if_pos c, if_pos c]
      · rw [if_neg c, if_neg c]; exact hV.nx s) r4
    exact ⟨w', N', r1, h1, h2⟩
  have HQ : Hid (Q = (p.q + 1) % 65536) := hQ
  have HPR : Hid (0 ≤ p.q ∧ p.q < 65536) := ⟨pR.2.2.1, pR.2.2.2⟩
  clear TC e12 hX ok hroom hrd pW pR hQ
  generalize told S p = S' at *
  generalize strike S.W p = W' at *
  have HL : Hid (S.L ++ [p] = S.L ++ [p]) := rfl
  generalize hL' : S.L ++ [p] = L' at *
  clear hL' HL
  obtain ⟨ps, pd, pq, px⟩ := p
  simp only [fstV, fs, fq, Option.isSome_some, pkv, pkc] at *
  have nF : Hid (∀ g, w.heap.size ≤ g → ¬ fi b r pr mb nb g) := show _ from fun g hg c => by have := HA.out.lt g c; omega
  simp only [sti, mkv] at *
  go_enter Try.func19, Try.ntmps19
  go_upto_region 2 with (go_at_call 30; with_reducible refine K.mono ?_; rintro e w1 ⟨rfl, hb1⟩)
  have K2 : Hid (InAt (w1.alloc (.cells #[.pointer (some ⟨r, 0, none⟩), .map (some mb), .map (some nb)] 67)) b S r pr mr sr mb nb N) := HA.out.next (hb1.alloc hb1.size _)
  have S2 : Hid (Bk (w1.alloc (.cells #[.pointer (some ⟨r, 0, none⟩), .map (some mb), .map (some nb)] 67)) w1.heap.size #[.pointer (some ⟨r, 0, none⟩), .map (some mb), .map (some nb)] 67) := Bk.new _ _ _
  have B2 : Hid (Below w.heap.size w (w1.alloc (.cells #[.pointer (some ⟨r, 0, none⟩), .map (some mb), .map (some nb)] 67))) := hb1.alloc hb1.size _
  have hcw : w.heap.size ≤ w1.heap.size := hb1.size
  clear HA K hb1
  generalize w1.alloc (.cells #[.pointer (some ⟨r, 0, none⟩), .map (some mb), .map (some nb)] 67) = v at *
  generalize w1.heap.size = c at *
  have s0 := S2.out.cell 0
  simp only [List.getElem?_toArray, List.getElem?_cons_zero] at s0
  go_upto_region 4 with (go_at_call 32; with_reducible refine (RM.out _ K2.out).mono ?_; rintro e w2 ⟨rfl, n, rfl⟩)
  have K3 : Hid (InAt (v.drewN n) b S r pr mr sr mb nb N) := K2.out.next (dn (Below.refl _ _) n)
  have S3 : Hid (Bk (v.drewN n) c #[.pointer (some ⟨r, 0, none⟩), .map (some mb), .map (some nb)] 67) := S2.out.next (dn (Below.refl _ _) n)
  have B3 : Hid (Below w.heap.size w (v.drewN n)) := dn B2.out n
  clear K2 S2 B2 s0 RM
  generalize v.drewN n = v3 at *
  have s0 := S3.out.cell 0
  have s1 := S3.out.cell 1
  have s2 := S3.out.cell 2
  simp only [List.getElem?_toArray, List.getElem?_cons_zero, List.getElem?_cons_succ] at s0 s1 s2
  go_upto_region 7 with (go_at_call 33; with_reducible refine (L.out _ K3.out).mono ?_; rintro e w4 ⟨rfl, hb4⟩)
  have K4 : Hid (InAt (w4.alloc (.cells #[.int .i64 ps, .int .i64 pq] 72)) b S r pr mr sr mb nb N) := K3.out.next (hb4.alloc hb4.size _)
  have S4 : Hid (Bk (w4.alloc (.cells #[.int .i64 ps, .int .i64 pq] 72)) c #[.pointer (some ⟨r, 0, none⟩), .map (some mb), .map (some nb)] 67) := S3.out.next (hb4.alloc hb4.size _)
  have M4 : Hid (Bk (w4.alloc (.cells #[.int .i64 ps, .int .i64 pq] 72)) w4.heap.size #[.int .i64 ps, .int .i64 pq] 72) := Bk.new _ _ _
  have B4 : Hid (Below w.heap.size w (w4.alloc (.cells #[.int .i64 ps, .int .i64 pq] 72))) := B3.out.trans ((hb4.alloc hb4.size _).mono B3.out.size)
  have hdw : w.heap.size ≤ w4.heap.size := Nat.le_trans B3.out.size hb4.size
  clear K3 S3 B3 s0 s1 s2 L hb4
  generalize w4.alloc (.cells #[.int .i64 ps, .int .i64 pq] 72) = v4 at *
  generalize w4.heap.size = d at *
  have s0 := S4.out.cell 0
  have s1 := S4.out.cell 1
  have m0 := M4.out.cell 0
  have m1 := M4.out.cell 1
  simp only [List.getElem?_toArray, List.getElem?_cons_zero, List.getElem?_cons_succ] at s0 s1 m0 m1
  have LK := LW.out v4 K4.out
  have LK2 := LW.out v4.drew (K4.out.next (Below.refl _ _).drew)
  go_still_tail 6, (by kernel_rfl)
  change wpList _ _ _ _ _ v4.drew
  have K5 : Hid (InAt v4.drew b S r pr mr sr mb nb N) := K4.out.next (Below.refl _ _).drew
  have S5 : Hid (Bk v4.drew c #[.pointer (some ⟨r, 0, none⟩), .map (some mb), .map (some nb)] 67) := S4.out.next (Below.refl _ _).drew
  have M5 : Hid (Bk v4.drew d #[.int .i64 ps, .int .i64 pq] 72) := M4.out.next (Below.refl _ _).drew
  have B5 : Hid (Below w.heap.size w v4.drew) := B4.out.drew
  clear K4 S4 M4 B4 s0 s1 m0 m1 LK LK2 LW
  generalize v4.drew = v5 at *
  go_upto_region 8 with (go_at_call 34; with_reducible refine (PU.out _ K5.out).mono ?_; rintro e w6 ⟨rfl, pr', mr', sr', K6, G6⟩)
  have HK6 : Hid (InAt w6 b { S with L := L' } r pr' mr' sr' mb nb N) := K6
  have HG6 : Hid (Gr (fi b r pr mb nb) w w6 (fi b r pr' mb nb)) := G6.after B5.out
  have S6 : Hid (Bk w6 c #[.pointer (some ⟨r, 0, none⟩), .map (some mb), .map (some nb)] 67) := S5.out.gr G6 (nF.out c hcw)
  have M6 : Hid (Bk w6 d #[.int .i64 ps, .int .i64 pq] 72) := M5.out.gr G6 (nF.out d hdw)
  have nC : ¬ fi b r pr' mb nb c := G6.off (nF.out c hcw) S5.out.lt
  have nD : ¬ fi b r pr' mb nb d := G6.off (nF.out d hdw) M5.out.lt
  have NC : Hid (¬ fi b r pr' mb nb c) := nC
  have ND : Hid (¬ fi b r pr' mb nb d) := nD
  clear K5 S5 M5 B5 PU K6 G6 nC nD
  have s1 := S6.out.cell 1
  have m0 := M6.out.cell 0
  have m1 := M6.out.cell 1
  simp only [List.getElem?_toArray, List.getElem?_cons_zero, List.getElem?_cons_succ] at s1 m0 m1
  obtain ⟨w7, hdel, K7, G7⟩ := DE.out w6 pr' mr' sr' 0 HK6.out
  have HK7 : Hid (InAt w7 b { S with L := L', W := W' } r pr' mr' sr' mb nb N) := K7
  have HG7 : Hid (Gr (fi b r pr mb nb) w w7 (fi b r pr' mb nb)) := HG6.out.trans G7
  have S7 : Hid (Bk w7 c #[.pointer (some ⟨r, 0, none⟩), .map (some mb), .map (some nb)] 67) := S6.out.gr G7 NC.out
  have M7 : Hid (Bk w7 d #[.int .i64 ps, .int .i64 pq] 72) := M6.out.gr G7 ND.out
  clear HK6 HG6 S6 M6 DE K7 G7
  go_upto_region 9 with (first | (at_delete; refine wpList_mdel rfl _ _ _ _ rfl rfl rfl hdel ?_) | go_in)
  clear s1 m0 m1 hdel
  have s2 := S7.out.cell 2
  have m0 := M7.out.cell 0
  have m1 := M7.out.cell 1
  simp only [List.getElem?_toArray, List.getElem?_cons_zero, List.getElem?_cons_succ] at s2 m0 m1
  obtain ⟨w8, N', hput, K8, G8⟩ := NU.out w7 pr' mr' sr' HK7.out
  have HK8 : Hid (InAt w8 b S' r pr' mr' sr' mb nb N') := K8
  have HG8 : Hid (Gr (fi b r pr mb nb) w w8 (fi b r pr' mb nb)) := HG7.out.trans G8
  obtain ⟨Q1, hQ1⟩ : ∃ Q1, pq + 1 = Q1 := ⟨_, rfl⟩
  have a1 : IntKind.i64.wrap (pq + 1) = Q1 := by
    have := HPR.out
    rw [hQ1]
    exact wrap_small (by omega) (by omega)
  have a2 : Q1.tmod 65536 = Q := by
    have := HPR.out
    rw [HQ.out, ← hQ1]
    exact Int.tmod_eq_emod_of_nonneg (by omega)
  clear hQ1 K8 G8 NU HK7 HG7
  go_wp2_with (first | (at_mapUpdate; refine wpList_mput rfl _ _ _ _ rfl rfl rfl rfl hput ?_) | go_in)
  go_ret
  exact ⟨_, rfl, ⟨OKT.out, r, pr', mr', sr', mb, nb, N', HK8.out, rfl⟩, HG8.out⟩
theorem inbox_tell {w : World} {b : Nat} {S : IS} {F : Nat → Prop} (h : In w b S F) : Calls Try.prog 19 #[.pointer (some ⟨b, 0, none⟩)] w fun e w' => ∃ F', e = .returned (.bool (tellB S)) ∧ In w' b (tellS S) F' ∧ Gr F w w' F' := by
  cases hb : tellB S with
  | false =>
    have e : tellS S = S := by
      rcases tell_cases S with ⟨_, ⟨_, h, _⟩ | ⟨p, _, _, h⟩⟩ | ⟨_, h, _⟩
      · exact h
      · rw [hb] at h; cases h
      · exact h
    rw [e]
    refine (tell_no h hb).mono ?_
    rintro e w' ⟨rfl, k⟩
    exact ⟨F, rfl, h.next k, Gr.of k⟩
  | true => exact tell_yes h hb
end Go.Proofs.Ytpmkpjnhdehnhaa
