/-
  The program's lane: the first word is taken, by contract; a lane that isn't there.
-/
import Derived.Test.YtkigeakaedkjpaaKTake
namespace Go.Proofs.Ytkigeakaedkjpaa
open Go.RowKit

theorem take_cases (S : KS) : (¬ S.ph = 2 ∧ takeK S = (S, zko, 13)) ∨ (S.ph = 2 ∧ ((S.ws = [] ∧ takeK S = (S, zko, 8)) ∨ ∃ x t, S.ws = x :: t ∧ takeK S = (nextK S x t, outK S x, 0))) := by
  unfold takeK
  by_cases h : S.ph = 2
  · rw [if_pos h]
    refine Or.inr ⟨h, ?_⟩
    cases e : S.ws with
    | nil => exact Or.inl ⟨rfl, rfl⟩
    | cons x t => exact Or.inr ⟨x, t, rfl, rfl⟩
  · rw [if_neg h]
    exact Or.inl ⟨h, rfl⟩
abbrev zo5 : Array Value := #[.int .i64 0, .int .i64 0, .int .u64 0, .bool false, .bool false]
section
variable {w : World} {b : Nat} {S : KS} {F : Nat → Prop}
set_option maxRecDepth 100000 in
set_option maxHeartbeats 4000000 in
theorem lane_take (h : Kn w b S F) : Calls Try.prog 19 #[.pointer (some ⟨b, 0, none⟩)] w fun e w' => ∃ F', e = .returned (.tuple #[kov (takeK S).2.1, .int .i64 (takeK S).2.2]) ∧ Kn w' b (takeK S).1 F' ∧ Gr F w w' F' := by
  have okT := h.ok.take
  obtain ⟨ok, r, pr, mr, sr, hk, rfl⟩ := h
  have OK : Hid (KOk S) := ok
  have B0 : Hid (Below w.heap.size w (w.alloc (.cells zo5 43))) := (Below.refl _ _).alloc (Nat.le_refl _) _
  have N0 : Hid (Bk (w.alloc (.cells zo5 43)) w.heap.size zo5 43) := Bk.new _ _ _
  have K0 : Hid (KnAt (w.alloc (.cells zo5 43)) b S r pr mr sr) := hk.next B0.out
  have nF : Hid (¬ fk b r pr w.heap.size) := show ¬ fk b r pr w.heap.size from fun c => by have := hk.lt _ c; omega
  clear hk
  simp only [zo5] at *
  rcases take_cases S with ⟨hp, e1⟩ | ⟨hp, ⟨hw, e1⟩ | ⟨x, t, hw, e1⟩⟩
  · rw [e1]
    clear okT e1 ok
    simp only [kov, koc, zko]
    have t1 : (S.ph != 2) = true := by simpa using hp
    obtain ⟨c0, c1, c2, c3, c4⟩ := K0.out.blk.five
    have hne : ¬ b = w.heap.size := fun e => nF.out (Or.inl e.symm)
    generalize S.ph = sp at *
    clear hp
    go_enter Try.func19, Try.ntmps19
    go_upto_region 1 with fail
    generalize w.alloc (.cells #[.int .i64 0, .int .i64 0, .int .u64 0, .bool false, .bool false] 43) = v at *
    obtain ⟨nb, hnb⟩ : ∃ x, w.heap.size = x := ⟨_, rfl⟩
    have HB : Hid (w.heap.size = nb) := hnb
    rw [hnb] at B0 N0 nF hne ⊢
    clear hnb
    obtain ⟨d0, d1, d2, d3, d4⟩ := N0.out.five
    obtain ⟨z0, z1, z2, z3, z4⟩ := N0.out.free5
    obtain ⟨y0, y1, y2, y3, y4⟩ := (N0.out.set5 (x0 := .int .i64 0) (x1 := .int .i64 0) (x2 := .int .u64 0) (x3 := .bool false) (x4 := .bool false)).five
    go_wp2
    refine bodyPost_ret (v := .tuple #[.agg #[.int .i64 0, .int .i64 0, .int .u64 0, .bool false, .bool false], .int .i64 13]) ?_ rfl ?_
    · simp [results, Try.results19, go_sem, y0, y1, y2, y3, y4]
    · have KX : Kn v b S (fk b r pr) := ⟨OK.out, r, pr, mr, sr, K0.out, rfl⟩
      exact ⟨_, rfl, ((((KX.far nF.out).far nF.out).far nF.out).far nF.out).far nF.out, by
        have := Gr.of (F := fk b r pr) (show Below w.heap.size w v by rw [HB.out]; exact B0.out)
        exact ((((this.setNew (by rw [HB.out]; exact Nat.le_refl _)).setNew (by rw [HB.out]; exact Nat.le_refl _)).setNew (by rw [HB.out]; exact Nat.le_refl _)).setNew (by rw [HB.out]; exact Nat.le_refl _)).setNew (by rw [HB.out]; exact Nat.le_refl _)⟩
  · rw [e1]
    clear e1 okT ok
    simp only [kov, koc, zko]
    have PP := RU.ring_pop K0.out.rg
    have k1 : RU.peekV sr = 0 := by unfold RU.peekV; rw [K0.out.xs, hw]; rfl
    have k2 : RU.peekE sr = 8 := by unfold RU.peekE; rw [K0.out.xs, hw]; exact if_pos rfl
    rw [k1, k2] at PP
    have ST : Hid (∀ v w' : World, KnAt v b S r pr mr sr → RU.RingAt w' r pr mr (RU.freeS sr) → RU.Fr r pr v w' → ∃ pr' mr', KnAt w' b S r pr' mr' (RU.freeS sr) ∧ Gr (fk b r pr) v w' (fk b r pr')) := show _ from fun v w' hv hR hF =>
      hv.step (S' := S) ⟨pr, mr, hR, hF, Or.inl rfl⟩ rfl rfl hv.lz (RU.freed_same (s := sr)).2.1 ((RU.freed_same (s := sr)).1.trans hv.laid) (by rw [(RU.freed_same (s := sr)).2.2, hv.xs, hw]; rfl)
    obtain ⟨c0, c1, c2, c3, c4⟩ := K0.out.blk.five
    rw [hp] at c1
    have hne : ¬ b = w.heap.size := fun e => nF.out (Or.inl e.symm)
    have hbl : b < w.heap.size := by have := K0.out.blk.lt; simp at this; omega
    clear hp hw k1 k2
    generalize RU.freeS sr = sr' at *
    go_enter Try.func19, Try.ntmps19
    go_upto_region 1 with fail
    generalize w.alloc (.cells #[.int .i64 0, .int .i64 0, .int .u64 0, .bool false, .bool false] 43) = v at *
    obtain ⟨nb, hnb⟩ : ∃ x, w.heap.size = x := ⟨_, rfl⟩
    have HB : Hid (w.heap.size = nb) := hnb
    rw [hnb] at B0 N0 nF hne hbl ⊢
    clear hnb
    go_upto_region 6 with (go_at_call 35; with_reducible refine PP.mono ?_; rintro e w1 ⟨rfl, hR, hF⟩)
    obtain ⟨pr', mr', kk, gg⟩ := ST.out v w1 K0.out hR hF
    have K1 : Hid (Kn w1 b S (fk b r pr')) := ⟨OK.out, r, pr', mr', sr', kk, rfl⟩
    have G1 : Hid (Gr (fk b r pr) w w1 (fk b r pr')) := gg.after (show Below w.heap.size w v by rw [HB.out]; exact B0.out)
    have N1 : Hid (Bk w1 nb #[.int .i64 0, .int .i64 0, .int .u64 0, .bool false, .bool false] 43) := N0.out.gr gg nF.out
    have nF1 : Hid (¬ fk b r pr' nb) := gg.off nF.out N0.out.lt
    clear c0 c1 c2 c3 c4 K0 N0 nF ST PP hR hF kk gg B0
    obtain ⟨d0, d1, d2, d3, d4⟩ := N1.out.five
    obtain ⟨z0, z1, z2, z3, z4⟩ := N1.out.free5
    obtain ⟨y0, y1, y2, y3, y4⟩ := (N1.out.set5 (x0 := .int .i64 0) (x1 := .int .i64 0) (x2 := .int .u64 0) (x3 := .bool false) (x4 := .bool false)).five
    go_wp2
    refine bodyPost_ret (v := .tuple #[.agg #[.int .i64 0, .int .i64 0, .int .u64 0, .bool false, .bool false], .int .i64 8]) ?_ rfl ?_
    · simp [results, Try.results19, go_sem, y0, y1, y2, y3, y4]
    · exact ⟨_, rfl, ((((K1.out.far nF1.out).far nF1.out).far nF1.out).far nF1.out).far nF1.out,
        ((((G1.out.setNew (Nat.le_of_eq HB.out)).setNew (Nat.le_of_eq HB.out)).setNew (Nat.le_of_eq HB.out)).setNew (Nat.le_of_eq HB.out)).setNew (Nat.le_of_eq HB.out)⟩
  · rw [e1] at okT ⊢
    simp only at okT
    have hx : x < 18446744073709551616 := ok.wi x (by rw [hw]; exact List.mem_cons_self)
    have PP := RU.ring_pop K0.out.rg
    have k1 : RU.peekV sr = (x : Int) := by unfold RU.peekV; rw [K0.out.xs, hw]; rfl
    have k2 : RU.peekE sr = 0 := by unfold RU.peekE; rw [K0.out.xs, hw, if_neg (by simp [wz])]
    rw [k1, k2] at PP
    have ST : Hid (∀ v w' : World, KnAt v b S r pr mr sr → RU.RingAt w' r pr mr (RU.freeS sr) → RU.Fr r pr v w' → ∃ pr' mr', KnAt w' b { S with ws := t } r pr' mr' (RU.freeS sr) ∧ Gr (fk b r pr) v w' (fk b r pr')) := show _ from fun v w' hv hR hF =>
      hv.step (S' := { S with ws := t }) ⟨pr, mr, hR, hF, Or.inl rfl⟩ rfl rfl hv.lz (RU.freed_same (s := sr)).2.1 ((RU.freed_same (s := sr)).1.trans hv.laid) (by rw [(RU.freed_same (s := sr)).2.2, hv.xs, hw]; rfl)
    have OT : Hid (KOk (nextK S x t)) := okT
    have OC : ∀ v : World, Calls Try.prog 36 #[.agg (stc S r), .int .u64 (x : Int)] v fun e w' => e = .returned (kov (outK S x)) ∧ Below v.heap.size v w' := fun v => out_any S r x hx v
    have TC : Hid (∀ v : World, Bk v b (stc S r) 71 → Calls Try.prog 37 #[.pointer (some ⟨b, 0, none⟩), .int .u64 (x : Int)] v fun e w' => e = .returned (.tuple #[]) ∧ Bk w' b (stc (nextK S x t) r) 71 ∧ On b v w') := show _ from fun v hv => taken_any hv x hx t
    have TU : Hid (∀ (pr' mr' : Nat) (v w' : World), KnAt v b { S with ws := t } r pr' mr' (RU.freeS sr) → On b v w' → Bk w' b (stc (nextK S x t) r) 71 → KnAt w' b (nextK S x t) r pr' mr' (RU.freeS sr)) := show _ from fun pr' mr' v w' hv ho hb => by
      refine hv.turn ho hb ?_ ?_ ?_
      · unfold nextK; split; · rfl
        split <;> rfl
      · unfold nextK; split; · rfl
        split <;> rfl
      · unfold nextK
        split
        · exact fun _ => rfl
        · split
          · exact fun _ => rfl
          · exact hv.lz
    obtain ⟨c0, c1, c2, c3, c4⟩ := K0.out.blk.five
    rw [hp] at c1
    have hne : ¬ b = w.heap.size := fun e => nF.out (Or.inl e.symm)
    have hbl : b < w.heap.size := by have := K0.out.blk.lt; simp at this; omega
    clear e1 okT ok hw k1 k2
    generalize RU.freeS sr = sr' at *
    generalize outK S x = o at *
    simp only [kov, koc] at *
    generalize nextK S x t = S' at *
    generalize (x : Int) = X at *
    clear hx
    go_enter Try.func19, Try.ntmps19
    go_upto_region 1 with fail
    generalize w.alloc (.cells #[.int .i64 0, .int .i64 0, .int .u64 0, .bool false, .bool false] 43) = v at *
    obtain ⟨nb, hnb⟩ : ∃ x, w.heap.size = x := ⟨_, rfl⟩
    have HB : Hid (w.heap.size = nb) := hnb
    rw [hnb] at B0 N0 nF hne hbl ⊢
    clear hnb
    go_upto_region 6 with (go_at_call 35; with_reducible refine PP.mono ?_; rintro e w1 ⟨rfl, hR, hF⟩)
    obtain ⟨pr', mr', kk, gg⟩ := ST.out v w1 K0.out hR hF
    have K1 : Hid (KnAt w1 b { S with ws := t } r pr' mr' sr') := kk
    have G1 : Hid (Gr (fk b r pr) w w1 (fk b r pr')) := gg.after (show Below w.heap.size w v by rw [HB.out]; exact B0.out)
    have N1 : Hid (Bk w1 nb #[.int .i64 0, .int .i64 0, .int .u64 0, .bool false, .bool false] 43) := N0.out.gr gg nF.out
    have nF1 : Hid (¬ fk b r pr' nb) := gg.off nF.out N0.out.lt
    have HX : Hid (S.ph = 2) := hp
    clear c0 c1 c2 c3 c4 K0 N0 nF ST PP hR hF kk gg B0 hp
    obtain ⟨c0, c1, c2, c3, c4⟩ := K1.out.blk.five
    have OW := OC w1
    clear OC
    simp only [stc] at *
    go_upto_region 9 with (go_at_call 36; with_reducible refine OW.mono ?_; rintro e w2 ⟨rfl, hb2⟩)
    have bb : Below w1.heap.size w1 (w2.alloc (.cells #[.int .i64 o.port, .int .i64 o.lane, .int .u64 (o.word : Int), .bool o.copy, .bool o.ends] 43)) := hb2.alloc hb2.size _
    have K2 : Hid (KnAt (w2.alloc (.cells #[.int .i64 o.port, .int .i64 o.lane, .int .u64 (o.word : Int), .bool o.copy, .bool o.ends] 43)) b { S with ws := t } r pr' mr' sr') := K1.out.next bb
    have G2 : Hid (Gr (fk b r pr) w (w2.alloc (.cells #[.int .i64 o.port, .int .i64 o.lane, .int .u64 (o.word : Int), .bool o.copy, .bool o.ends] 43)) (fk b r pr')) := G1.out.below bb
    have N2 : Hid (Bk (w2.alloc (.cells #[.int .i64 o.port, .int .i64 o.lane, .int .u64 (o.word : Int), .bool o.copy, .bool o.ends] 43)) nb #[.int .i64 0, .int .i64 0, .int .u64 0, .bool false, .bool false] 43) := N1.out.next bb
    have M2 : Hid (Bk (w2.alloc (.cells #[.int .i64 o.port, .int .i64 o.lane, .int .u64 (o.word : Int), .bool o.copy, .bool o.ends] 43)) w2.heap.size #[.int .i64 o.port, .int .i64 o.lane, .int .u64 (o.word : Int), .bool o.copy, .bool o.ends] 43) := Bk.new _ _ _
    have HL : nb < w2.heap.size := Nat.lt_of_lt_of_le N1.out.lt hb2.size
    clear K1 G1 N1 OW hb2 bb c0 c1 c2 c3 c4
    generalize w2.alloc (.cells #[.int .i64 o.port, .int .i64 o.lane, .int .u64 (o.word : Int), .bool o.copy, .bool o.ends] 43) = v2 at *
    generalize w2.heap.size = kb at *
    have TV := TC.out v2 K2.out.blk
    clear TC
    go_upto_region 10 with (go_at_call 37; with_reducible refine TV.mono ?_; rintro e w3 ⟨rfl, hb3, ho3⟩)
    have K3 : Hid (Kn w3 b S' (fk b r pr')) := ⟨OT.out, r, pr', mr', sr', TU.out pr' mr' v2 w3 K2.out ho3 hb3, rfl⟩
    have G3 : Hid (Gr (fk b r pr) w w3 (fk b r pr')) := G2.out.trans (ho3.gr (Or.inl rfl))
    have N3 : Hid (Bk w3 nb #[.int .i64 0, .int .i64 0, .int .u64 0, .bool false, .bool false] 43) := N2.out.on ho3 (fun e => hne e.symm)
    have M3 : Hid (Bk w3 kb #[.int .i64 o.port, .int .i64 o.lane, .int .u64 (o.word : Int), .bool o.copy, .bool o.ends] 43) := M2.out.on ho3 (by omega)
    have hk1 : ¬ kb = nb := by omega
    have hk2 : ¬ nb = kb := by omega
    clear K2 G2 N2 M2 TV TU hb3 ho3
    obtain ⟨c0, c1, c2, c3, c4⟩ := M3.out.five
    obtain ⟨d0, d1, d2, d3, d4⟩ := N3.out.five
    obtain ⟨z0, z1, z2, z3, z4⟩ := N3.out.free5
    obtain ⟨y0, y1, y2, y3, y4⟩ := (N3.out.set5 (x0 := .int .i64 o.port) (x1 := .int .i64 o.lane) (x2 := .int .u64 (o.word : Int)) (x3 := .bool o.copy) (x4 := .bool o.ends)).five
    clear HL
    go_wp2
    refine bodyPost_ret (v := .tuple #[.agg #[.int .i64 o.port, .int .i64 o.lane, .int .u64 (o.word : Int), .bool o.copy, .bool o.ends], .int .i64 0]) ?_ rfl ?_
    · simp [results, Try.results19, go_sem, y0, y1, y2, y3, y4]
    · exact ⟨_, rfl, ((((K3.out.far nF1.out).far nF1.out).far nF1.out).far nF1.out).far nF1.out,
        ((((G3.out.setNew (Nat.le_of_eq HB.out)).setNew (Nat.le_of_eq HB.out)).setNew (Nat.le_of_eq HB.out)).setNew (Nat.le_of_eq HB.out)).setNew (Nat.le_of_eq HB.out)⟩
end
theorem knil_put (x : Nat) (w : World) : Calls Try.prog 12 #[.pointer none, .int .u64 (x : Int)] w fun e w' => e = .returned (.int .i64 1) ∧ Below w.heap.size w w' := by
  have LC := look_nil w
  have RC := fun v => RU.rnil_push (x : Int) v
  have FX := fun p a b c d v => stField0 p a b c d v
  simp only [stn] at LC
  go_enter Try.func12, Try.ntmps12
  go_wp2_with (first | (go_at_call 29; with_reducible refine LC.mono ?_; rintro e w1 ⟨rfl, hb1⟩) | (go_at_call 30; with_reducible refine (RC _).mono ?_; rintro e w2 ⟨rfl, rfl⟩))
  go_ret
  exact ⟨rfl, hb1⟩
set_option maxRecDepth 100000 in
set_option maxHeartbeats 2000000 in
theorem waiting_nil (w : World) : Calls Try.prog 31 #[.agg stn] w fun e w' => e = .returned (.tuple #[.agg #[.int .i64 0, .int .i64 0, .int .i64 0, .int .i64 0, .int .i64 0, .bool false, .bool false, .string ⟨#[]⟩], .bool false]) ∧ Below w.heap.size w w' := by
  obtain ⟨W1, W2, W3⟩ := wait_world w stn
  have PK := fun v => RU.rnil_peek v
  have NB : Hid (Below w.heap.size w ((w.alloc (.cells stn 69)).alloc (.cells #[.int .i64 0, .int .i64 0, .int .i64 0, .int .i64 0, .int .i64 0, .bool false, .bool false, .string ⟨#[]⟩] 49))) := W1
  have N2 : Hid (Bk ((w.alloc (.cells stn 69)).alloc (.cells #[.int .i64 0, .int .i64 0, .int .i64 0, .int .i64 0, .int .i64 0, .bool false, .bool false, .string ⟨#[]⟩] 49)) w.heap.size stn 69) := W2
  have N3 : Hid (Bk ((w.alloc (.cells stn 69)).alloc (.cells #[.int .i64 0, .int .i64 0, .int .i64 0, .int .i64 0, .int .i64 0, .bool false, .bool false, .string ⟨#[]⟩] 49)) (w.heap.size + 1) #[.int .i64 0, .int .i64 0, .int .i64 0, .int .i64 0, .int .i64 0, .bool false, .bool false, .string ⟨#[]⟩] 49) := W3
  clear W1 W2 W3
  simp only [stn] at *
  go_enter Try.func31, Try.ntmps31
  go_upto_region 1 with fail
  generalize (w.alloc (.cells #[.pointer none, .int .i64 0, .int .i64 0, .int .i64 0, .bool false] 69)).alloc (.cells #[.int .i64 0, .int .i64 0, .int .i64 0, .int .i64 0, .int .i64 0, .bool false, .bool false, .string ⟨#[]⟩] 49) = u at *
  obtain ⟨nb, hnb⟩ : ∃ x, w.heap.size = x := ⟨_, rfl⟩
  obtain ⟨rb, hrb⟩ : ∃ x, w.heap.size + 1 = x := ⟨_, rfl⟩
  have HB : Hid (w.heap.size = nb ∧ nb + 1 = rb) := ⟨hnb, by rw [← hrb, hnb]⟩
  rw [hrb] at N3 ⊢
  rw [hnb] at NB N2 ⊢
  clear hnb hrb
  obtain ⟨c0, c1, c2, c3, c4⟩ := N2.out.five
  obtain ⟨d0, d1, d2, d3, d4, d5, d6, d7⟩ := N3.out.flit
  obtain ⟨z0, z1, z2, z3, z4, z5, z6, z7⟩ := N3.out.frees
  obtain ⟨y0, y1, y2, y3, y4, y5, y6, y7⟩ := (N3.out.eight (x0 := .int .i64 0) (x1 := .int .i64 0) (x2 := .int .i64 0) (x3 := .int .i64 0) (x4 := .int .i64 0) (x5 := .bool false) (x6 := .bool false) (x7 := .string ⟨#[]⟩)).flit
  go_wp2_with (go_at_call 43; with_reducible refine (PK _).mono ?_; rintro e w1 ⟨rfl, rfl⟩)
  refine bodyPost_ret (v := .tuple #[.agg #[.int .i64 0, .int .i64 0, .int .i64 0, .int .i64 0, .int .i64 0, .bool false, .bool false, .string ⟨#[]⟩], .bool false]) ?_ rfl ?_
  · simp [results, Try.results31, go_sem, y0, y1, y2, y3, y4, y5, y6, y7]
  · exact ⟨rfl, by rw [HB.out.1]; exact below_eight_at NB.out (by have := HB.out.2; omega)⟩
theorem knil_find (node : Int) (v : Value) (w : World) : Calls Try.prog 13 #[.pointer none, .int .i64 node, v] w fun e w' => e = .returned (.bool false) ∧ Below w.heap.size w w' := by
  have LC := look_nil w
  have WC := fun u => waiting_nil u
  simp only [stn] at *
  go_enter Try.func13, Try.ntmps13
  go_wp2_with fail
  go_at_call 29
  with_reducible refine LC.mono ?_
  rintro e w1 ⟨rfl, hb1⟩
  have WW := WC w1
  have B1 : Hid (Below w.heap.size w w1) := hb1
  clear LC WC hb1
  go_upto_region 2 with (go_at_call 31; with_reducible refine WW.mono ?_; rintro e w2 ⟨rfl, hb2⟩)
  have B2 : Hid (Below w.heap.size w (w2.alloc (.cells #[.int .i64 0, .int .i64 0, .int .i64 0, .int .i64 0, .int .i64 0, .bool false, .bool false, .string ⟨#[]⟩] 49))) := (B1.out.trans (hb2.mono B1.out.size)).alloc (by have := B1.out.size; have := hb2.size; omega) _
  clear WW hb2 B1
  go_wp2
  go_ret
  exact ⟨rfl, B2.out⟩
theorem knil_phase (w : World) : Calls Try.prog 15 #[.pointer none] w fun e w' => e = .returned (.int .i64 0) ∧ Below w.heap.size w w' := by
  have LC := look_nil w
  have FX := fun p a b c d v => stField1 p a b c d v
  have FY := fun a b c v => paField0 a b c v
  simp only [stn] at LC
  go_enter Try.func15, Try.ntmps15
  go_wp2_with (go_at_call 29; with_reducible refine LC.mono ?_; rintro e w1 ⟨rfl, hb1⟩)
  go_ret
  exact ⟨rfl, hb1⟩
theorem knil_give (k : Int) (w : World) : Calls Try.prog 18 #[.pointer none, .int .i64 k] w fun e w' => e = .returned (.bool false) ∧ Below w.heap.size w w' := by
  have PH := knil_phase w
  go_enter Try.func18, Try.ntmps18
  go_wp2_with (go_at_call 15; with_reducible refine PH.mono ?_; rintro e w1 ⟨rfl, hb1⟩)
  go_ret
  exact ⟨rfl, hb1⟩
theorem knil_take (w : World) : Calls Try.prog 19 #[.pointer none] w fun e w' => e = .returned (.tuple #[.agg #[.int .i64 0, .int .i64 0, .int .u64 0, .bool false, .bool false], .int .i64 1]) ∧ Below w.heap.size w w' := by
  have B0 : Hid (Below w.heap.size w (w.alloc (.cells zo5 43))) := (Below.refl _ _).alloc (Nat.le_refl _) _
  have N0 : Hid (Bk (w.alloc (.cells zo5 43)) w.heap.size zo5 43) := Bk.new _ _ _
  simp only [zo5] at *
  go_enter Try.func19, Try.ntmps19
  go_upto_region 1 with fail
  generalize w.alloc (.cells #[.int .i64 0, .int .i64 0, .int .u64 0, .bool false, .bool false] 43) = v at *
  obtain ⟨d0, d1, d2, d3, d4⟩ := N0.out.five
  obtain ⟨z0, z1, z2, z3, z4⟩ := N0.out.free5
  obtain ⟨y0, y1, y2, y3, y4⟩ := (N0.out.set5 (x0 := .int .i64 0) (x1 := .int .i64 0) (x2 := .int .u64 0) (x3 := .bool false) (x4 := .bool false)).five
  go_wp2
  refine bodyPost_ret (v := .tuple #[.agg #[.int .i64 0, .int .i64 0, .int .u64 0, .bool false, .bool false], .int .i64 1]) ?_ rfl ?_
  · simp [results, Try.results19, go_sem, y0, y1, y2, y3, y4]
  · exact ⟨rfl, below_five B0.out (Nat.le_refl _)⟩
theorem knil_peek (w : World) : Calls Try.prog 23 #[.pointer none] w fun e w' => e = .returned (.tuple #[.int .u64 0, .int .i64 1]) ∧ Below w.heap.size w w' := by
  have LC := look_nil w
  have RC := fun v => RU.rnil_peek v
  have FX := fun p a b c d v => stField0 p a b c d v
  simp only [stn] at LC
  go_enter Try.func23, Try.ntmps23
  go_wp2_with (first | (go_at_call 29; with_reducible refine LC.mono ?_; rintro e w1 ⟨rfl, hb1⟩) | (go_at_call 43; with_reducible refine (RC _).mono ?_; rintro e w2 ⟨rfl, rfl⟩))
  go_ret2
  exact ⟨rfl, hb1⟩
theorem knil_len (w : World) : Calls Try.prog 21 #[.pointer none] w fun e w' => e = .returned (.int .i64 0) ∧ Below w.heap.size w w' := by
  have LC := look_nil w
  have RC := fun v => RU.rnil_len v
  have FX := fun p a b c d v => stField0 p a b c d v
  simp only [stn] at LC
  go_enter Try.func21, Try.ntmps21
  go_wp2_with (first | (go_at_call 29; with_reducible refine LC.mono ?_; rintro e w1 ⟨rfl, hb1⟩) | (go_at_call 38; with_reducible refine (RC _).mono ?_; rintro e w2 ⟨rfl, rfl⟩))
  go_ret
  exact ⟨rfl, hb1⟩
theorem knil_room (w : World) : Calls Try.prog 24 #[.pointer none] w fun e w' => e = .returned (.int .i64 0) ∧ Below w.heap.size w w' := by
  have LC := look_nil w
  have RC := fun v => RU.rnil_room v
  have FX := fun p a b c d v => stField0 p a b c d v
  simp only [stn] at LC
  go_enter Try.func24, Try.ntmps24
  go_wp2_with (first | (go_at_call 29; with_reducible refine LC.mono ?_; rintro e w1 ⟨rfl, hb1⟩) | (go_at_call 44; with_reducible refine (RC _).mono ?_; rintro e w2 ⟨rfl, rfl⟩))
  go_ret
  exact ⟨rfl, hb1⟩
theorem knil_port (w : World) : Calls Try.prog 16 #[.pointer none] w fun e w' => e = .returned (.int .i64 0) ∧ Below w.heap.size w w' := by
  have LC := look_nil w
  have FX := fun p a b c d v => stField1 p a b c d v
  have FY := fun a b c v => paField1 a b c v
  simp only [stn] at LC
  go_enter Try.func16, Try.ntmps16
  go_wp2_with (go_at_call 29; with_reducible refine LC.mono ?_; rintro e w1 ⟨rfl, hb1⟩)
  go_ret
  exact ⟨rfl, hb1⟩
theorem knil_given (w : World) : Calls Try.prog 25 #[.pointer none] w fun e w' => e = .returned (.int .i64 0) ∧ Below w.heap.size w w' := by
  have LC := look_nil w
  have FX := fun p a b c d v => stField1 p a b c d v
  have FY := fun a b c v => paField2 a b c v
  simp only [stn] at LC
  go_enter Try.func25, Try.ntmps25
  go_wp2_with (go_at_call 29; with_reducible refine LC.mono ?_; rintro e w1 ⟨rfl, hb1⟩)
  go_ret
  exact ⟨rfl, hb1⟩
theorem knil_copies (w : World) : Calls Try.prog 17 #[.pointer none] w fun e w' => e = .returned (.bool false) ∧ Below w.heap.size w w' := by
  have LC := look_nil w
  have FX := fun p a b c d v => stField2 p a b c d v
  simp only [stn] at LC
  go_enter Try.func17, Try.ntmps17
  go_wp2_with (go_at_call 29; with_reducible refine LC.mono ?_; rintro e w1 ⟨rfl, hb1⟩)
  go_ret
  exact ⟨rfl, hb1⟩
end Go.Proofs.Ytkigeakaedkjpaa
