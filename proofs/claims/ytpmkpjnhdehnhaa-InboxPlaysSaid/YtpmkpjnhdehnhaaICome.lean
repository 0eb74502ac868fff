/-
  The program's inbox: a packet comes.
-/
import Derived.Test.YtpmkpjnhdehnhaaINew
namespace Go.Proofs.Ytpmkpjnhdehnhaa
open Go.RowKit

theorem in_dec (p : Pk) : ((decide (0 ≤ p.s) && decide (p.s < 4096)) && (decide (0 ≤ p.q) && decide (p.q < 65536))) = decide (inR p) := by
  unfold inR
  simp only [← Bool.decide_and]
  exact decide_eq_decide.2 ⟨fun h => ⟨h.1.1, h.1.2, h.2.1, h.2.2⟩, fun h => ⟨⟨h.1, h.2.1⟩, h.2.2⟩⟩
set_option maxRecDepth 100000 in
set_option maxHeartbeats 4000000 in
theorem inbox_come {w : World} {b : Nat} {S : IS} {F : Nat → Prop} (h : In w b S F) (p : Pk) : Calls Try.prog 17 #[.pointer (some ⟨b, 0, none⟩), pkv p] w fun e w' => e = .returned (.int .i64 (comeE S p)) ∧ In w' b (comeS S p) F ∧ Gr F w w' F := by
  have okc := h.ok.come p
  obtain ⟨ok, r, pr, mr, sr, mb, nb, N, hA, rfl⟩ := h
  have OK : Hid (IOk S) := ok
  have OKC : Hid (IOk (comeS S p)) := okc
  have B0 : Hid (Below w.heap.size w (w.alloc (.cells (pkc p) 33))) := (Below.refl _ _).alloc (Nat.le_refl _) _
  have N0 : Hid (Bk (w.alloc (.cells (pkc p) 33)) w.heap.size (pkc p) 33) := Bk.new _ _ _
  have K0 : Hid (InAt (w.alloc (.cells (pkc p) 33)) b S r pr mr sr mb nb N) := hA.next B0.out
  have nF : Hid (¬ fi b r pr mb nb w.heap.size) := show ¬ fi b r pr mb nb w.heap.size from fun c => Nat.lt_irrefl _ (hA.lt _ c)
  have K := ilook_blk K0.out.blk
  have EQ := map_nil_eq (some mb)
  have RA := inRange_any p.s 4096
  have RB := inRange_any p.q 65536
  have DEC := in_dec p
  have WT : Hid (∀ V : World, InAt V b S r pr mr sr mb nb N → inR p → ∃ x, (Instr.lookup 64 (.map (some mb)) (mkv p.s p.q) true).run Try.prog V = .ok (.tuple #[pkv x, .bool (has S.W p)]) V) := show _ from fun V hV hp => look_has hV.mp OK.out.rng hp
  have PT : Hid (∀ V : World, InAt V b S r pr mr sr mb nb N → inR p → has S.W p = false → ∃ w', (Instr.mapUpdate 64 (.map (some mb)) (mkv p.s p.q) (pkv p)).run Try.prog V = .ok () w' ∧ InAt w' b { S with W := S.W ++ [p] } r pr mr sr mb nb N ∧ Gr (fi b r pr mb nb) V w' (fi b r pr mb nb)) := show _ from fun V hV hp hh => by
    obtain ⟨w', r1, r2, r3⟩ := put_wait hV.mp OK.out.rng hp hh
    obtain ⟨k1, k2⟩ := hV.wait r3 r2
    exact ⟨w', r1, k1, k2⟩
  clear hA ok okc
  obtain ⟨R1, hR1⟩ : ∃ R1, R1 = (decide (0 ≤ p.s) && decide (p.s < 4096)) := ⟨_, rfl⟩
  obtain ⟨R2, hR2⟩ : ∃ R2, R2 = (decide (0 ≤ p.q) && decide (p.q < 65536)) := ⟨_, rfl⟩
  rw [← hR1] at RA DEC
  rw [← hR2] at RB DEC
  clear hR1 hR2
  have C1 : inR p ∨ ¬ inR p := Classical.em _
  by_cases hin : inR p
  · have e12 : R1 = true ∧ R2 = true := by simpa [hin] using DEC
    obtain ⟨rfl, rfl⟩ := e12
    cases hh : has S.W p
    · have e1 : comeE S p = 0 := by unfold comeE; rw [if_pos hin, hh]; rfl
      have e2 : comeS S p = { S with W := S.W ++ [p] } := by unfold comeS; rw [if_pos hin, hh]; rfl
      have OKD : Hid (IOk (comeS S p)) := OKC
      rw [e2] at OKD
      rw [e1, e2]
      have WT2 : Hid (∀ V : World, InAt V b S r pr mr sr mb nb N → ∃ x, (Instr.lookup 64 (.map (some mb)) (mkv p.s p.q) true).run Try.prog V = .ok (.tuple #[pkv x, .bool false]) V) := show _ from fun V hV => by have := WT.out V hV hin; rw [hh] at this; exact this
      have PT2 : Hid (∀ V : World, InAt V b S r pr mr sr mb nb N → ∃ w', (Instr.mapUpdate 64 (.map (some mb)) (mkv p.s p.q) (pkv p)).run Try.prog V = .ok () w' ∧ InAt w' b { S with W := S.W ++ [p] } r pr mr sr mb nb N ∧ Gr (fi b r pr mb nb) V w' (fi b r pr mb nb)) := show _ from fun V hV => PT.out V hV hin hh
      clear WT PT DEC C1 hin hh e1 e2
      generalize hS' : ({ S with W := S.W ++ [p] } : IS) = S' at *
      clear hS'
      obtain ⟨ps, pd, pq, px⟩ := p
      simp only [sti, pkv, pkc, mkv, Option.isNone] at *
      have f1 := fld1 (.pointer (some ⟨r, 0, none⟩)) (.map (some mb)) (.map (some nb))
      go_enter Try.func17, Try.ntmps17
      go_upto_region 1 with fail
      generalize w.alloc (.cells #[.int .i64 ps, .int .i64 pd, .int .i64 pq, .string px] 33) = v at *
      obtain ⟨c, hc⟩ : ∃ c, w.heap.size = c := ⟨_, rfl⟩
      have HC : Hid (w.heap.size = c) := hc
      rw [hc] at B0 N0 nF ⊢
      clear hc
      go_upto_region 2 with (go_at_call 30; with_reducible refine K.mono ?_; rintro e w1 ⟨rfl, hb1⟩)
      have K1 : Hid (InAt w1 b S r pr mr sr mb nb N) := K0.out.next hb1
      have N1 : Hid (Bk w1 c #[.int .i64 ps, .int .i64 pd, .int .i64 pq, .string px] 33) := N0.out.next hb1
      have B1 : Hid (Below c w w1) := B0.out.trans (hb1.mono (by have := N0.out.lt; omega))
      clear K0 N0 B0 hb1 K
      have n0 := N1.out.cell 0
      have n2 := N1.out.cell 2
      simp only [List.getElem?_toArray, List.getElem?_cons_zero, List.getElem?_cons_succ] at n0 n2
      go_upto_region 5 with (first
        | (go_at_call_of 31 (Value.int IntKind.i64 4096); with_reducible refine (RA _).mono ?_; rintro e w2 ⟨rfl, rfl⟩)
        | (go_at_call_of 31 (Value.int IntKind.i64 65536); with_reducible refine (RB _).mono ?_; rintro e w2 ⟨rfl, rfl⟩))
      have K2 : Hid (InAt (w1.alloc (.cells #[.int .i64 ps, .int .i64 pq] 72)) b S r pr mr sr mb nb N) := K1.out.next ((Below.refl _ _).alloc (Nat.le_refl _) _)
      have N2 : Hid (Bk (w1.alloc (.cells #[.int .i64 ps, .int .i64 pq] 72)) c #[.int .i64 ps, .int .i64 pd, .int .i64 pq, .string px] 33) := N1.out.alloc _
      have M2 : Hid (Bk (w1.alloc (.cells #[.int .i64 ps, .int .i64 pq] 72)) w1.heap.size #[.int .i64 ps, .int .i64 pq] 72) := Bk.new _ _ _
      have B2 : Hid (Below c w (w1.alloc (.cells #[.int .i64 ps, .int .i64 pq] 72))) := B1.out.alloc (Nat.le_of_lt N1.out.lt) _
      clear K1 N1 B1 n0 n2
      generalize w1.alloc (.cells #[.int .i64 ps, .int .i64 pq] 72) = v2 at *
      generalize w1.heap.size = d at *
      obtain ⟨⟨xs, xd, xq, xx⟩, hlk⟩ := WT2.out v2 K2.out
      simp only at hlk
      have m0 := M2.out.cell 0
      have m1 := M2.out.cell 1
      simp only [List.getElem?_toArray, List.getElem?_cons_zero, List.getElem?_cons_succ] at m0 m1
      go_upto_region 8 with (first | (at_lookup; refine wpList_mlook rfl _ _ _ _ rfl rfl rfl hlk ?_) | go_in)
      have K3 : Hid (InAt (v2.alloc (.cells #[.int .i64 xs, .int .i64 xd, .int .i64 xq, .string xx] 33)) b S r pr mr sr mb nb N) := K2.out.next ((Below.refl _ _).alloc (Nat.le_refl _) _)
      have N3 : Hid (Bk (v2.alloc (.cells #[.int .i64 xs, .int .i64 xd, .int .i64 xq, .string xx] 33)) c #[.int .i64 ps, .int .i64 pd, .int .i64 pq, .string px] 33) := N2.out.alloc _
      have M3 : Hid (Bk (v2.alloc (.cells #[.int .i64 xs, .int .i64 xd, .int .i64 xq, .string xx] 33)) d #[.int .i64 ps, .int .i64 pq] 72) := M2.out.alloc _
      have B3 : Hid (Below c w (v2.alloc (.cells #[.int .i64 xs, .int .i64 xd, .int .i64 xq, .string xx] 33))) := B2.out.alloc (Nat.le_of_lt N2.out.lt) _
      clear K2 N2 M2 B2 m0 m1 hlk
      generalize v2.alloc (.cells #[.int .i64 xs, .int .i64 xd, .int .i64 xq, .string xx] 33) = v3 at *
      have m0 := M3.out.cell 0
      have m1 := M3.out.cell 1
      have n0 := N3.out.cell 0
      have n1 := N3.out.cell 1
      have n2 := N3.out.cell 2
      have n3 := N3.out.cell 3
      simp only [List.getElem?_toArray, List.getElem?_cons_zero, List.getElem?_cons_succ] at m0 m1 n0 n1 n2 n3
      obtain ⟨w4, hput, hI, hG⟩ := PT2.out v3 K3.out
      have HI : Hid (InAt w4 b S' r pr mr sr mb nb N) := hI
      have HG : Hid (Gr (fi b r pr mb nb) v3 w4 (fi b r pr mb nb)) := hG
      clear hI hG PT2 WT2
      go_wp2_with (first | (at_mapUpdate; refine wpList_mput rfl _ _ _ _ rfl rfl rfl rfl hput ?_) | go_in)
      go_ret
      exact ⟨rfl, ⟨OKD.out, r, pr, mr, sr, mb, nb, N, HI.out, rfl⟩, HG.out.after (by rw [HC.out]; exact B3.out)⟩
    · have e1 : comeE S p = 13 := by unfold comeE; rw [if_pos hin, hh]; rfl
      have e2 : comeS S p = S := by unfold comeS; rw [if_pos hin, hh]; rfl
      have OKD : Hid (IOk (comeS S p)) := OKC
      rw [e2] at OKD
      rw [e1, e2]
      have WT2 : Hid (∀ V : World, InAt V b S r pr mr sr mb nb N → ∃ x, (Instr.lookup 64 (.map (some mb)) (mkv p.s p.q) true).run Try.prog V = .ok (.tuple #[pkv x, .bool true]) V) := show _ from fun V hV => by have := WT.out V hV hin; rw [hh] at this; exact this
      clear WT PT DEC C1 hin hh e1 e2
      obtain ⟨ps, pd, pq, px⟩ := p
      simp only [sti, pkv, pkc, mkv, Option.isNone] at *
      have f1 := fld1 (.pointer (some ⟨r, 0, none⟩)) (.map (some mb)) (.map (some nb))
      go_enter Try.func17, Try.ntmps17
      go_upto_region 1 with fail
      generalize w.alloc (.cells #[.int .i64 ps, .int .i64 pd, .int .i64 pq, .string px] 33) = v at *
      obtain ⟨c, hc⟩ : ∃ c, w.heap.size = c := ⟨_, rfl⟩
      have HC : Hid (w.heap.size = c) := hc
      rw [hc] at B0 N0 nF ⊢
      clear hc
      go_upto_region 2 with (go_at_call 30; with_reducible refine K.mono ?_; rintro e w1 ⟨rfl, hb1⟩)
      have K1 : Hid (InAt w1 b S r pr mr sr mb nb N) := K0.out.next hb1
      have N1 : Hid (Bk w1 c #[.int .i64 ps, .int .i64 pd, .int .i64 pq, .string px] 33) := N0.out.next hb1
      have B1 : Hid (Below c w w1) := B0.out.trans (hb1.mono (by have := N0.out.lt; omega))
      clear K0 N0 B0 hb1 K
      have n0 := N1.out.cell 0
      have n2 := N1.out.cell 2
      simp only [List.getElem?_toArray, List.getElem?_cons_zero, List.getElem?_cons_succ] at n0 n2
      go_upto_region 5 with (first
        | (go_at_call_of 31 (Value.int IntKind.i64 4096); with_reducible refine (RA _).mono ?_; rintro e w2 ⟨rfl, rfl⟩)
        | (go_at_call_of 31 (Value.int IntKind.i64 65536); with_reducible refine (RB _).mono ?_; rintro e w2 ⟨rfl, rfl⟩))
      have K2 : Hid (InAt (w1.alloc (.cells #[.int .i64 ps, .int .i64 pq] 72)) b S r pr mr sr mb nb N) := K1.out.next ((Below.refl _ _).alloc (Nat.le_refl _) _)
      have N2 : Hid (Bk (w1.alloc (.cells #[.int .i64 ps, .int .i64 pq] 72)) c #[.int .i64 ps, .int .i64 pd, .int .i64 pq, .string px] 33) := N1.out.alloc _
      have M2 : Hid (Bk (w1.alloc (.cells #[.int .i64 ps, .int .i64 pq] 72)) w1.heap.size #[.int .i64 ps, .int .i64 pq] 72) := Bk.new _ _ _
      have B2 : Hid (Below c w (w1.alloc (.cells #[.int .i64 ps, .int .i64 pq] 72))) := B1.out.alloc (Nat.le_of_lt N1.out.lt) _
      clear K1 N1 B1 n0 n2
      generalize w1.alloc (.cells #[.int .i64 ps, .int .i64 pq] 72) = v2 at *
      generalize w1.heap.size = d at *
      obtain ⟨⟨xs, xd, xq, xx⟩, hlk⟩ := WT2.out v2 K2.out
      simp only at hlk
      have m0 := M2.out.cell 0
      have m1 := M2.out.cell 1
      simp only [List.getElem?_toArray, List.getElem?_cons_zero, List.getElem?_cons_succ] at m0 m1
      go_wp2_with (first | (at_lookup; refine wpList_mlook rfl _ _ _ _ rfl rfl rfl hlk ?_) | go_in)
      go_ret
      have bb : Below w.heap.size w (v2.alloc (.cells #[.int .i64 xs, .int .i64 xd, .int .i64 xq, .string xx] 33)) := by rw [HC.out]; exact B2.out.alloc (Nat.le_of_lt N2.out.lt) _
      exact ⟨rfl, ⟨OK.out, r, pr, mr, sr, mb, nb, N, K2.out.next ((Below.refl _ _).alloc (Nat.le_refl _) _), rfl⟩, Gr.of bb⟩
  · have e1 : comeE S p = 1 := by unfold comeE; rw [if_neg hin]
    have e2 : comeS S p = S := by unfold comeS; rw [if_neg hin]
    rw [e1, e2]
    have e12 : R1 = false ∨ R1 = true ∧ R2 = false := by
      have : (R1 && R2) = false := DEC.trans (decide_eq_false hin)
      cases R1
      · exact Or.inl rfl
      · exact Or.inr ⟨rfl, by simpa using this⟩
    clear WT PT DEC C1 hin e1 e2
    obtain ⟨ps, pd, pq, px⟩ := p
    simp only [sti, pkv, pkc, Option.isNone] at *
    have f1 := fld1 (.pointer (some ⟨r, 0, none⟩)) (.map (some mb)) (.map (some nb))
    go_enter Try.func17, Try.ntmps17
    go_upto_region 1 with fail
    generalize w.alloc (.cells #[.int .i64 ps, .int .i64 pd, .int .i64 pq, .string px] 33) = v at *
    obtain ⟨c, hc⟩ : ∃ c, w.heap.size = c := ⟨_, rfl⟩
    have HC : Hid (w.heap.size = c) := hc
    rw [hc] at B0 N0 nF ⊢
    clear hc
    go_upto_region 2 with (go_at_call 30; with_reducible refine K.mono ?_; rintro e w1 ⟨rfl, hb1⟩)
    have K1 : Hid (InAt w1 b S r pr mr sr mb nb N) := K0.out.next hb1
    have N1 : Hid (Bk w1 c #[.int .i64 ps, .int .i64 pd, .int .i64 pq, .string px] 33) := N0.out.next hb1
    have B1 : Hid (Below c w w1) := B0.out.trans (hb1.mono (by have := N0.out.lt; omega))
    clear K0 N0 B0 hb1 K
    have n0 := N1.out.cell 0
    have n2 := N1.out.cell 2
    simp only [List.getElem?_toArray, List.getElem?_cons_zero, List.getElem?_cons_succ] at n0 n2
    rcases e12 with rfl | ⟨rfl, rfl⟩
    all_goals
      go_wp2_with (first
        | (go_at_call_of 31 (Value.int IntKind.i64 4096); with_reducible refine (RA _).mono ?_; rintro e w2 ⟨rfl, rfl⟩)
        | (go_at_call_of 31 (Value.int IntKind.i64 65536); with_reducible refine (RB _).mono ?_; rintro e w2 ⟨rfl, rfl⟩))
      go_ret
      exact ⟨rfl, ⟨OK.out, r, pr, mr, sr, mb, nb, N, K1.out, rfl⟩, Gr.of (by rw [HC.out]; exact B1.out)⟩
end Go.Proofs.Ytpmkpjnhdehnhaa
