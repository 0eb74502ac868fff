/-
  The document's step of a law.
-/
import Derived.Test.YtihfekcdghmkhaaLRNew
import Derived.Test.YtihfekcdghmkhaaLOps
namespace Go.Proofs.Ytihfekcdghmkhaa
open Go.RowKit
open RC (Cl cc cv zc cc_len cc_at)

/-- The document's link as a value, all its rows there. -/
structure RefIn (w : World) (v : Value) (S : LS) : Prop where
  at_ : RefAt w v S
  lt : ∀ g, Vb v g → g < w.heap.size
theorem RefIn.below {w w' : World} {v : Value} {S : LS} (h : RefIn w v S) (b : Below w.heap.size w w') : RefIn w' v S := ⟨h.at_.below b, fun g hg => Nat.lt_of_lt_of_le (h.lt g hg) b.size⟩
theorem Rd.far' {w : World} {a : Option Addr} {vs : List Value} {b j : Nat} {y : Value} (h : Rd w a vs) (hb : ∀ x, a = some x → x.block ≠ b) : Rd (w.setCell ⟨b, j, none⟩ y) a vs := fun i v hi => by
  obtain ⟨g, o, e, hg, hc⟩ := h i v hi
  exact ⟨g, o, e, by simpa using hg, by rw [World.cell?_of_block (Below.heap_setCell _ ⟨b, j, none⟩ _ g (hb _ e))]; exact hc⟩
theorem RefAt.far {w : World} {v y : Value} {S : LS} {b j : Nat} (h : RefAt w v S) (hb : ¬ Vb v b) : RefAt (w.setCell ⟨b, j, none⟩ y) v S := by
  obtain ⟨a1, a2, a3, a4, c1, c2, c3, c4, rfl, ⟨h1, h2, h3, h4⟩, r⟩ := h
  refine ⟨a1, a2, a3, a4, c1, c2, c3, c4, rfl, ⟨h1.far' fun x e h => hb ?_, h2.far' fun x e h => hb ?_, h3.far' fun x e h => hb ?_, h4.far' fun x e h => hb ?_⟩, r⟩
  · exact ⟨_, _, _, _, _, _, _, _, _, _, _, _, _, _, _, rfl, x, h, Or.inl e⟩
  · exact ⟨_, _, _, _, _, _, _, _, _, _, _, _, _, _, _, rfl, x, h, Or.inr (Or.inl e)⟩
  · exact ⟨_, _, _, _, _, _, _, _, _, _, _, _, _, _, _, rfl, x, h, Or.inr (Or.inr (Or.inl e))⟩
  · exact ⟨_, _, _, _, _, _, _, _, _, _, _, _, _, _, _, rfl, x, h, Or.inr (Or.inr (Or.inr e))⟩
theorem RefIn.far {w : World} {v y : Value} {S : LS} {b j : Nat} (h : RefIn w v S) (hb : ¬ Vb v b) : RefIn (w.setCell ⟨b, j, none⟩ y) v S := ⟨h.at_.far hb, fun g hg => by simpa using h.lt g hg⟩
theorem RefIn.gr {F F' : Nat → Prop} {w w' : World} {v : Value} {S : LS} (h : RefIn w v S) (g : Gr F w w' F') (hF : ∀ k, Vb v k → ¬ F k) : RefIn w' v S := by
  refine ⟨?_, fun k hk => Nat.lt_of_lt_of_le (h.lt k hk) g.size⟩
  obtain ⟨a1, a2, a3, a4, c1, c2, c3, c4, rfl, ⟨h1, h2, h3, h4⟩, r⟩ := h.at_
  refine ⟨a1, a2, a3, a4, c1, c2, c3, c4, rfl, ⟨h1.gr g fun x e => hF _ ?_, h2.gr g fun x e => hF _ ?_, h3.gr g fun x e => hF _ ?_, h4.gr g fun x e => hF _ ?_⟩, r⟩
  · exact ⟨_, _, _, _, _, _, _, _, _, _, _, _, _, _, _, rfl, x, rfl, Or.inl e⟩
  · exact ⟨_, _, _, _, _, _, _, _, _, _, _, _, _, _, _, rfl, x, rfl, Or.inr (Or.inl e)⟩
  · exact ⟨_, _, _, _, _, _, _, _, _, _, _, _, _, _, _, rfl, x, rfl, Or.inr (Or.inr (Or.inl e))⟩
  · exact ⟨_, _, _, _, _, _, _, _, _, _, _, _, _, _, _, rfl, x, rfl, Or.inr (Or.inr (Or.inr e))⟩
/-- Nine stores into two blocks that none of the rows lies in. -/
theorem RefIn.nine {w : World} {v : Value} {S : LS} {b c : Nat} (h : RefIn w v S) (hb : ¬ Vb v b) (hc : ¬ Vb v c) (y0 y1 y2 y3 y4 y5 y6 z0 z1 : Value) : RefIn ((((((((((w.setCell ⟨b, 0, none⟩ y0).setCell ⟨b, 1, none⟩ y1).setCell ⟨b, 2, none⟩ y2).setCell ⟨b, 3, none⟩ y3).setCell ⟨b, 4, none⟩ y4).setCell ⟨b, 5, none⟩ y5).setCell ⟨b, 6, none⟩ y6).setCell ⟨c, 0, none⟩ z0).setCell ⟨c, 1, none⟩ z1)) v S :=
  ((((((((h.far hb).far hb).far hb).far hb).far hb).far hb).far hb).far hc).far hc
theorem Src.mono {B B' M M' : Nat} {v v' : Value} (h : Src B M v v') (hB : B' ≤ B) (hM : M ≤ M') : Src B' M' v v' := fun g hg => (h g hg).elim Or.inl fun k => Or.inr ⟨Nat.le_trans hB k.1, Nat.lt_of_lt_of_le k.2 hM⟩
set_option maxRecDepth 100000 in
set_option maxHeartbeats 16000000 in
theorem rstep_any {S : LS} {v : Value} {w : World} (h : Ok S) (hv : RefIn w v S) (o : Opn) : Calls Try.prog 15 #[v, ov o] w fun e w' => ∃ v', e = .returned (.tuple #[v', cv (stepF S o.k o.lane o.word).2.1, .int .i64 (stepF S o.k o.lane o.word).2.2]) ∧ RefIn w' v' (stepF S o.k o.lane o.word).1 ∧ Below w.heap.size w w' ∧ Src w.heap.size w'.heap.size v v' := by
  have hlt := o.k_lt
  have KC := fun v => kind_any o v
  generalize o.k = r at *
  obtain ⟨kd, la, wo⟩ := o
  simp only [ov] at *
  have HV : Hid (RefIn w v S) := hv
  obtain ⟨a1, a2, a3, a4, c1, c2, c3, c4, ev, -, -, -⟩ := hv.at_
  have EV : Hid (v = .agg #[.int .i64 (S.n : Int), .int .i64 (S.d : Int), .int .i64 (S.r : Int), .slice a1 S.cr.length c1, .slice a2 S.ws.length c2, .slice a3 S.far.length c3, .slice a4 S.bk.length c4]) := ev
  have HOK : Hid (Ok S) := h
  rw [EV.out]
  clear hv ev h
  have P0 : Hid (Bk ((((w.alloc (.cells #[.int .i64 (S.n : Int), .int .i64 (S.d : Int), .int .i64 (S.r : Int), .slice a1 S.cr.length c1, .slice a2 S.ws.length c2, .slice a3 S.far.length c3, .slice a4 S.bk.length c4] 30)).alloc (.cells #[.int .i64 kd, .int .i64 la, .int .u64 wo] 40)).alloc (.cells lz 30)).alloc (.cells #[.int .i64 0, .int .u64 0] 35)) w.heap.size #[.int .i64 (S.n : Int), .int .i64 (S.d : Int), .int .i64 (S.r : Int), .slice a1 S.cr.length c1, .slice a2 S.ws.length c2, .slice a3 S.far.length c3, .slice a4 S.bk.length c4] 30) := (((Bk.new _ _ _).alloc _).alloc _).alloc _
  have O0 : Hid (Bk ((((w.alloc (.cells #[.int .i64 (S.n : Int), .int .i64 (S.d : Int), .int .i64 (S.r : Int), .slice a1 S.cr.length c1, .slice a2 S.ws.length c2, .slice a3 S.far.length c3, .slice a4 S.bk.length c4] 30)).alloc (.cells #[.int .i64 kd, .int .i64 la, .int .u64 wo] 40)).alloc (.cells lz 30)).alloc (.cells #[.int .i64 0, .int .u64 0] 35)) (w.heap.size + 1) #[.int .i64 kd, .int .i64 la, .int .u64 wo] 40) := show Bk _ _ _ _ from by
    have := ((Bk.new (w.alloc (.cells #[.int .i64 (S.n : Int), .int .i64 (S.d : Int), .int .i64 (S.r : Int), .slice a1 S.cr.length c1, .slice a2 S.ws.length c2, .slice a3 S.far.length c3, .slice a4 S.bk.length c4] 30)) #[.int .i64 kd, .int .i64 la, .int .u64 wo] 40).alloc (.cells lz 30)).alloc (.cells #[.int .i64 0, .int .u64 0] 35)
    rwa [show (w.alloc (.cells #[.int .i64 (S.n : Int), .int .i64 (S.d : Int), .int .i64 (S.r : Int), .slice a1 S.cr.length c1, .slice a2 S.ws.length c2, .slice a3 S.far.length c3, .slice a4 S.bk.length c4] 30)).heap.size = w.heap.size + 1 by simp] at this
  have R0 : Hid (Bk ((((w.alloc (.cells #[.int .i64 (S.n : Int), .int .i64 (S.d : Int), .int .i64 (S.r : Int), .slice a1 S.cr.length c1, .slice a2 S.ws.length c2, .slice a3 S.far.length c3, .slice a4 S.bk.length c4] 30)).alloc (.cells #[.int .i64 kd, .int .i64 la, .int .u64 wo] 40)).alloc (.cells lz 30)).alloc (.cells #[.int .i64 0, .int .u64 0] 35)) (w.heap.size + 1 + 1) lz 30) := show Bk _ _ _ _ from by
    have := (Bk.new ((w.alloc (.cells #[.int .i64 (S.n : Int), .int .i64 (S.d : Int), .int .i64 (S.r : Int), .slice a1 S.cr.length c1, .slice a2 S.ws.length c2, .slice a3 S.far.length c3, .slice a4 S.bk.length c4] 30)).alloc (.cells #[.int .i64 kd, .int .i64 la, .int .u64 wo] 40)) lz 30).alloc (.cells #[.int .i64 0, .int .u64 0] 35)
    rwa [show ((w.alloc (.cells #[.int .i64 (S.n : Int), .int .i64 (S.d : Int), .int .i64 (S.r : Int), .slice a1 S.cr.length c1, .slice a2 S.ws.length c2, .slice a3 S.far.length c3, .slice a4 S.bk.length c4] 30)).alloc (.cells #[.int .i64 kd, .int .i64 la, .int .u64 wo] 40)).heap.size = w.heap.size + 1 + 1 by simp] at this
  have C0 : Hid (Bk ((((w.alloc (.cells #[.int .i64 (S.n : Int), .int .i64 (S.d : Int), .int .i64 (S.r : Int), .slice a1 S.cr.length c1, .slice a2 S.ws.length c2, .slice a3 S.far.length c3, .slice a4 S.bk.length c4] 30)).alloc (.cells #[.int .i64 kd, .int .i64 la, .int .u64 wo] 40)).alloc (.cells lz 30)).alloc (.cells #[.int .i64 0, .int .u64 0] 35)) (w.heap.size + 1 + 1 + 1) #[.int .i64 0, .int .u64 0] 35) := show Bk _ _ _ _ from by
    have := Bk.new (((w.alloc (.cells #[.int .i64 (S.n : Int), .int .i64 (S.d : Int), .int .i64 (S.r : Int), .slice a1 S.cr.length c1, .slice a2 S.ws.length c2, .slice a3 S.far.length c3, .slice a4 S.bk.length c4] 30)).alloc (.cells #[.int .i64 kd, .int .i64 la, .int .u64 wo] 40)).alloc (.cells lz 30)) #[.int .i64 0, .int .u64 0] 35
    rwa [show (((w.alloc (.cells #[.int .i64 (S.n : Int), .int .i64 (S.d : Int), .int .i64 (S.r : Int), .slice a1 S.cr.length c1, .slice a2 S.ws.length c2, .slice a3 S.far.length c3, .slice a4 S.bk.length c4] 30)).alloc (.cells #[.int .i64 kd, .int .i64 la, .int .u64 wo] 40)).alloc (.cells lz 30)).heap.size = w.heap.size + 1 + 1 + 1 by simp] at this
  have B0 : Hid (Below w.heap.size w ((((w.alloc (.cells #[.int .i64 (S.n : Int), .int .i64 (S.d : Int), .int .i64 (S.r : Int), .slice a1 S.cr.length c1, .slice a2 S.ws.length c2, .slice a3 S.far.length c3, .slice a4 S.bk.length c4] 30)).alloc (.cells #[.int .i64 kd, .int .i64 la, .int .u64 wo] 40)).alloc (.cells lz 30)).alloc (.cells #[.int .i64 0, .int .u64 0] 35))) := ((((Below.refl _ _).alloc (Nat.le_refl _) _).alloc (by simp) _).alloc (by simp; omega) _).alloc (by simp; omega) _
  go_enter Try.func15, Try.ntmps15
  go_upto_region 1 with fail
  generalize (((w.alloc (.cells #[.int .i64 (S.n : Int), .int .i64 (S.d : Int), .int .i64 (S.r : Int), .slice a1 S.cr.length c1, .slice a2 S.ws.length c2, .slice a3 S.far.length c3, .slice a4 S.bk.length c4] 30)).alloc (.cells #[.int .i64 kd, .int .i64 la, .int .u64 wo] 40)).alloc (.cells lz 30)).alloc (.cells #[.int .i64 0, .int .u64 0] 35) = v0 at *
  obtain ⟨p, hp⟩ : ∃ x, w.heap.size = x := ⟨_, rfl⟩
  have HBW : Hid (w.heap.size = p) := hp
  rw [hp] at P0 O0 R0 C0 B0 ⊢
  clear hp
  have o0 := O0.out.cell 0
  have o1 := O0.out.cell 1
  have o2 := O0.out.cell 2
  simp only [List.getElem?_toArray, List.getElem?_cons_zero, List.getElem?_cons_succ] at o0 o1 o2
  go_wp2_with fail
  go_at_call 24
  with_reducible refine (KC _).mono ?_
  rintro e w1 ⟨rfl, hb1⟩
  have P1 : Hid (Bk w1 p #[.int .i64 (S.n : Int), .int .i64 (S.d : Int), .int .i64 (S.r : Int), .slice a1 S.cr.length c1, .slice a2 S.ws.length c2, .slice a3 S.far.length c3, .slice a4 S.bk.length c4] 30) := P0.out.next hb1
  have O1 : Hid (Bk w1 (p + 1) #[.int .i64 kd, .int .i64 la, .int .u64 wo] 40) := O0.out.next hb1
  have R1 : Hid (Bk w1 (p + 1 + 1) lz 30) := R0.out.next hb1
  have C1 : Hid (Bk w1 (p + 1 + 1 + 1) #[.int .i64 0, .int .u64 0] 35) := C0.out.next hb1
  have B1 : Hid (Below p w w1) := B0.out.trans (hb1.mono (Nat.le_of_lt P0.out.lt))
  have V1 : Hid (RefAt w1 (.agg #[.int .i64 (S.n : Int), .int .i64 (S.d : Int), .int .i64 (S.r : Int), .slice a1 S.cr.length c1, .slice a2 S.ws.length c2, .slice a3 S.far.length c3, .slice a4 S.bk.length c4]) S) := show RefAt w1 (.agg #[.int .i64 (S.n : Int), .int .i64 (S.d : Int), .int .i64 (S.r : Int), .slice a1 S.cr.length c1, .slice a2 S.ws.length c2, .slice a3 S.far.length c3, .slice a4 S.bk.length c4]) S from by rw [← EV.out]; exact HV.out.at_.below (by rw [HBW.out]; exact B1.out)
  have hz1 : p + 1 + 1 + 1 < w1.heap.size := C1.out.lt
  clear P0 O0 R0 C0 B0 KC hb1 o0 o1 o2
  have o0 := O1.out.cell 0
  have o1 := O1.out.cell 1
  have o2 := O1.out.cell 2
  simp only [List.getElem?_toArray, List.getElem?_cons_zero, List.getElem?_cons_succ] at o0 o1 o2
  have d0 := P1.out.cell 0
  have d1 := P1.out.cell 1
  have d2 := P1.out.cell 2
  have d3 := P1.out.cell 3
  have d4 := P1.out.cell 4
  have d5 := P1.out.cell 5
  have d6 := P1.out.cell 6
  simp only [List.getElem?_toArray, List.getElem?_cons_zero, List.getElem?_cons_succ] at d0 d1 d2 d3 d4 d5 d6
  rcases (show r = 0 ∨ r = 1 ∨ r = 2 ∨ r = 3 by omega) with rfl | rfl | rfl | rfl
  · have V2 := rsend HOK.out V1.out la wo
    simp only at *
    obtain ⟨S2, hS2⟩ : ∃ s, (sendF S la wo).1 = s := ⟨_, rfl⟩
    obtain ⟨er, her⟩ : ∃ s, (sendF S la wo).2 = s := ⟨_, rfl⟩
    have HS2 : Hid ((sendF S la wo).1 = S2) := hS2
    have HER : Hid ((sendF S la wo).2 = er) := her
    rw [hS2, her] at V2
    clear hS2 her
    go_wp2_with fail
    go_at_call 34
    refine V2.mono ?_
    rintro e' w2 ⟨v', rfl, r2, hb2, s2⟩
    have SR : Hid (Src p w2.heap.size (.agg #[.int .i64 (S.n : Int), .int .i64 (S.d : Int), .int .i64 (S.r : Int), .slice a1 S.cr.length c1, .slice a2 S.ws.length c2, .slice a3 S.far.length c3, .slice a4 S.bk.length c4]) v') := show Src p w2.heap.size (.agg #[.int .i64 (S.n : Int), .int .i64 (S.d : Int), .int .i64 (S.r : Int), .slice a1 S.cr.length c1, .slice a2 S.ws.length c2, .slice a3 S.far.length c3, .slice a4 S.bk.length c4]) v' from s2.mono (by omega) (Nat.le_refl _)
    have VIN : Hid (RefIn w2 v' S2) := show RefIn w2 v' S2 from ⟨r2, fun g hg => by
      rcases s2 g hg with h | h
      · have h1 := HV.out.lt g (EV.out ▸ h)
        have h2 := HBW.out
        have h3 := hb2.size
        omega
      · exact h.2⟩
    have NOT : Hid (∀ g, Vb v' g → g < p ∨ p + 1 + 1 + 1 < g) := show ∀ g, Vb v' g → g < p ∨ p + 1 + 1 + 1 < g from fun g hg => by
      rcases s2 g hg with h | h
      · have h1 := HV.out.lt g (EV.out ▸ h)
        have h2 := HBW.out
        omega
      · omega
    obtain ⟨b1, b2, b3, b4, e1, e2, e3, e4, ev, -, -, -⟩ := r2
    have EV2 : Hid (v' = .agg #[.int .i64 (S2.n : Int), .int .i64 (S2.d : Int), .int .i64 (S2.r : Int), .slice b1 S2.cr.length e1, .slice b2 S2.ws.length e2, .slice b3 S2.far.length e3, .slice b4 S2.bk.length e4]) := ev
    rw [EV2.out]
    have R2 : Hid (Bk w2 (p + 1 + 1) lz 30) := R1.out.next hb2
    have C2 : Hid (Bk w2 (p + 1 + 1 + 1) #[.int .i64 0, .int .u64 0] 35) := C1.out.next hb2
    have B2 : Hid (Below p w w2) := B1.out.trans (hb2.mono (by omega))
    have hz2 : p + 1 + 1 + 1 < w2.heap.size := Nat.lt_of_lt_of_le hz1 hb2.size
    clear V2 ev s2 hb2 P1 O1 R1 C1 B1 V1 hz1 o0 o1 o2 d0 d1 d2 d3 d4 d5 d6
    go_upto_region 4 with fail
    have Q3 : Hid (Bk (w2.alloc (.cells #[.int .i64 (S2.n : Int), .int .i64 (S2.d : Int), .int .i64 (S2.r : Int), .slice b1 S2.cr.length e1, .slice b2 S2.ws.length e2, .slice b3 S2.far.length e3, .slice b4 S2.bk.length e4] 30)) w2.heap.size #[.int .i64 (S2.n : Int), .int .i64 (S2.d : Int), .int .i64 (S2.r : Int), .slice b1 S2.cr.length e1, .slice b2 S2.ws.length e2, .slice b3 S2.far.length e3, .slice b4 S2.bk.length e4] 30) := Bk.new _ _ _
    have R3 : Hid (Bk (w2.alloc (.cells #[.int .i64 (S2.n : Int), .int .i64 (S2.d : Int), .int .i64 (S2.r : Int), .slice b1 S2.cr.length e1, .slice b2 S2.ws.length e2, .slice b3 S2.far.length e3, .slice b4 S2.bk.length e4] 30)) (p + 1 + 1) lz 30) := R2.out.alloc _
    have C3 : Hid (Bk (w2.alloc (.cells #[.int .i64 (S2.n : Int), .int .i64 (S2.d : Int), .int .i64 (S2.r : Int), .slice b1 S2.cr.length e1, .slice b2 S2.ws.length e2, .slice b3 S2.far.length e3, .slice b4 S2.bk.length e4] 30)) (p + 1 + 1 + 1) #[.int .i64 0, .int .u64 0] 35) := C2.out.alloc _
    have B3 : Hid (Below p w (w2.alloc (.cells #[.int .i64 (S2.n : Int), .int .i64 (S2.d : Int), .int .i64 (S2.r : Int), .slice b1 S2.cr.length e1, .slice b2 S2.ws.length e2, .slice b3 S2.far.length e3, .slice b4 S2.bk.length e4] 30))) := B2.out.alloc (by omega) _
    have V3 : Hid (RefIn (w2.alloc (.cells #[.int .i64 (S2.n : Int), .int .i64 (S2.d : Int), .int .i64 (S2.r : Int), .slice b1 S2.cr.length e1, .slice b2 S2.ws.length e2, .slice b3 S2.far.length e3, .slice b4 S2.bk.length e4] 30)) v' S2) := VIN.out.below ((Below.refl _ _).alloc (Nat.le_refl _) _)
    have HZ3 : Hid (w2.heap.size ≤ (w2.alloc (.cells #[.int .i64 (S2.n : Int), .int .i64 (S2.d : Int), .int .i64 (S2.r : Int), .slice b1 S2.cr.length e1, .slice b2 S2.ws.length e2, .slice b3 S2.far.length e3, .slice b4 S2.bk.length e4] 30)).heap.size) := show w2.heap.size ≤ (w2.alloc (.cells #[.int .i64 (S2.n : Int), .int .i64 (S2.d : Int), .int .i64 (S2.r : Int), .slice b1 S2.cr.length e1, .slice b2 S2.ws.length e2, .slice b3 S2.far.length e3, .slice b4 S2.bk.length e4] 30)).heap.size from by simp
    clear R2 C2 B2 VIN
    generalize w2.alloc (.cells #[.int .i64 (S2.n : Int), .int .i64 (S2.d : Int), .int .i64 (S2.r : Int), .slice b1 S2.cr.length e1, .slice b2 S2.ws.length e2, .slice b3 S2.far.length e3, .slice b4 S2.bk.length e4] 30) = v3 at *
    generalize hqb : w2.heap.size = qb at *
    have q0 := Q3.out.cell 0
    have q1 := Q3.out.cell 1
    have q2 := Q3.out.cell 2
    have q3 := Q3.out.cell 3
    have q4 := Q3.out.cell 4
    have q5 := Q3.out.cell 5
    have q6 := Q3.out.cell 6
    simp only [List.getElem?_toArray, List.getElem?_cons_zero, List.getElem?_cons_succ] at q0 q1 q2 q3 q4 q5 q6
    have d0 := R3.out.cell 0
    have d1 := R3.out.cell 1
    have d2 := R3.out.cell 2
    have d3 := R3.out.cell 3
    have d4 := R3.out.cell 4
    have d5 := R3.out.cell 5
    have d6 := R3.out.cell 6
    simp only [List.getElem?_toArray, List.getElem?_cons_zero, List.getElem?_cons_succ] at d0 d1 d2 d3 d4 d5 d6
    have z0 := R3.out.free 0
    have z1 := R3.out.free 1
    have z2 := R3.out.free 2
    have z3 := R3.out.free 3
    have z4 := R3.out.free 4
    have z5 := R3.out.free 5
    have z6 := R3.out.free 6
    have C4 : Bk ((((((((v3.setCell ⟨p + 1 + 1, 0, none⟩ (.int .i64 (S2.n : Int))).setCell ⟨p + 1 + 1, 1, none⟩ (.int .i64 (S2.d : Int))).setCell ⟨p + 1 + 1, 2, none⟩ (.int .i64 (S2.r : Int))).setCell ⟨p + 1 + 1, 3, none⟩ (.slice b1 S2.cr.length e1)).setCell ⟨p + 1 + 1, 4, none⟩ (.slice b2 S2.ws.length e2)).setCell ⟨p + 1 + 1, 5, none⟩ (.slice b3 S2.far.length e3)).setCell ⟨p + 1 + 1, 6, none⟩ (.slice b4 S2.bk.length e4))) (p + 1 + 1 + 1) #[.int .i64 0, .int .u64 0] 35 := seven_far C3.out (by omega) _ _ _ _ _ _ _
    have m0 := C4.cell 0
    have m1 := C4.cell 1
    simp only [List.getElem?_toArray, List.getElem?_cons_zero, List.getElem?_cons_succ] at m0 m1
    have n0 := C4.free 0
    have n1 := C4.free 1
    have YR : Bk ((((((((((v3.setCell ⟨p + 1 + 1, 0, none⟩ (.int .i64 (S2.n : Int))).setCell ⟨p + 1 + 1, 1, none⟩ (.int .i64 (S2.d : Int))).setCell ⟨p + 1 + 1, 2, none⟩ (.int .i64 (S2.r : Int))).setCell ⟨p + 1 + 1, 3, none⟩ (.slice b1 S2.cr.length e1)).setCell ⟨p + 1 + 1, 4, none⟩ (.slice b2 S2.ws.length e2)).setCell ⟨p + 1 + 1, 5, none⟩ (.slice b3 S2.far.length e3)).setCell ⟨p + 1 + 1, 6, none⟩ (.slice b4 S2.bk.length e4)).setCell ⟨p + 1 + 1 + 1, 0, none⟩ (.int .i64 0)).setCell ⟨p + 1 + 1 + 1, 1, none⟩ (.int .u64 0))) (p + 1 + 1) #[.int .i64 (S2.n : Int), .int .i64 (S2.d : Int), .int .i64 (S2.r : Int), .slice b1 S2.cr.length e1, .slice b2 S2.ws.length e2, .slice b3 S2.far.length e3, .slice b4 S2.bk.length e4] 30 := pair_far (seven_at R3.out _ _ _ _ _ _ _) (by omega) _ _
    have YC : Bk ((((((((((v3.setCell ⟨p + 1 + 1, 0, none⟩ (.int .i64 (S2.n : Int))).setCell ⟨p + 1 + 1, 1, none⟩ (.int .i64 (S2.d : Int))).setCell ⟨p + 1 + 1, 2, none⟩ (.int .i64 (S2.r : Int))).setCell ⟨p + 1 + 1, 3, none⟩ (.slice b1 S2.cr.length e1)).setCell ⟨p + 1 + 1, 4, none⟩ (.slice b2 S2.ws.length e2)).setCell ⟨p + 1 + 1, 5, none⟩ (.slice b3 S2.far.length e3)).setCell ⟨p + 1 + 1, 6, none⟩ (.slice b4 S2.bk.length e4)).setCell ⟨p + 1 + 1 + 1, 0, none⟩ (.int .i64 0)).setCell ⟨p + 1 + 1 + 1, 1, none⟩ (.int .u64 0))) (p + 1 + 1 + 1) #[(.int .i64 0), (.int .u64 0)] 35 := pair_at C4 _ _
    have y0 := YR.cell 0
    have y1 := YR.cell 1
    have y2 := YR.cell 2
    have y3 := YR.cell 3
    have y4 := YR.cell 4
    have y5 := YR.cell 5
    have y6 := YR.cell 6
    simp only [List.getElem?_toArray, List.getElem?_cons_zero, List.getElem?_cons_succ] at y0 y1 y2 y3 y4 y5 y6
    have x0 := YC.cell 0
    have x1 := YC.cell 1
    simp only [List.getElem?_toArray, List.getElem?_cons_zero, List.getElem?_cons_succ] at x0 x1
    clear YR YC C4
    go_wp2
    refine bodyPost_ret (v := .tuple #[.agg #[.int .i64 (S2.n : Int), .int .i64 (S2.d : Int), .int .i64 (S2.r : Int), .slice b1 S2.cr.length e1, .slice b2 S2.ws.length e2, .slice b3 S2.far.length e3, .slice b4 S2.bk.length e4], .agg #[(.int .i64 0), (.int .u64 0)], .int .i64 er]) ?_ rfl ?_
    · simp [results, Try.results15, go_sem, y0, y1, y2, y3, y4, y5, y6, x0, x1]
      try rfl
    · refine ⟨v', ?_, ?_, ?_, ?_⟩
      · rw [EV2.out]
        show _ = Ending.returned (.tuple #[_, cv zc, .int .i64 (sendF S la wo).2])
        rw [HER.out]; rfl
      · show RefIn _ v' (sendF S la wo).1
        rw [HS2.out]
        exact V3.out.nine (fun h => by have := NOT.out _ h; omega) (fun h => by have := NOT.out _ h; omega) _ _ _ _ _ _ _ _ _
      · rw [HBW.out]
        exact ((below_seven B3.out (by omega) _ _ _ _ _ _ _).setCell (by show p ≤ p + 1 + 1 + 1; omega) _).setCell (by show p ≤ p + 1 + 1 + 1; omega) _
      · rw [HBW.out]
        exact SR.out.mono (Nat.le_refl _) (by have h := HZ3.out; first | (simp; omega) | simp)
  · have V2 := rcarry HOK.out V1.out
    simp only at *
    obtain ⟨S2, hS2⟩ : ∃ s, (carryF S).1 = s := ⟨_, rfl⟩
    obtain ⟨er, her⟩ : ∃ s, (carryF S).2.2 = s := ⟨_, rfl⟩
    have HS2 : Hid ((carryF S).1 = S2) := hS2
    have HER : Hid ((carryF S).2.2 = er) := her
    rw [hS2, her] at V2
    clear hS2 her
    obtain ⟨c', hc'⟩ : ∃ s, (carryF S).2.1 = s := ⟨_, rfl⟩
    have HCC : Hid ((carryF S).2.1 = c') := hc'
    rw [hc'] at V2
    clear hc'
    obtain ⟨cl, cw⟩ := c'
    go_wp2_with fail
    go_at_call 35
    refine V2.mono ?_
    rintro e' w2 ⟨v', rfl, r2, hb2, s2⟩
    have SR : Hid (Src p w2.heap.size (.agg #[.int .i64 (S.n : Int), .int .i64 (S.d : Int), .int .i64 (S.r : Int), .slice a1 S.cr.length c1, .slice a2 S.ws.length c2, .slice a3 S.far.length c3, .slice a4 S.bk.length c4]) v') := show Src p w2.heap.size (.agg #[.int .i64 (S.n : Int), .int .i64 (S.d : Int), .int .i64 (S.r : Int), .slice a1 S.cr.length c1, .slice a2 S.ws.length c2, .slice a3 S.far.length c3, .slice a4 S.bk.length c4]) v' from s2.mono (by omega) (Nat.le_refl _)
    have VIN : Hid (RefIn w2 v' S2) := show RefIn w2 v' S2 from ⟨r2, fun g hg => by
      rcases s2 g hg with h | h
      · have h1 := HV.out.lt g (EV.out ▸ h)
        have h2 := HBW.out
        have h3 := hb2.size
        omega
      · exact h.2⟩
    have NOT : Hid (∀ g, Vb v' g → g < p ∨ p + 1 + 1 + 1 < g) := show ∀ g, Vb v' g → g < p ∨ p + 1 + 1 + 1 < g from fun g hg => by
      rcases s2 g hg with h | h
      · have h1 := HV.out.lt g (EV.out ▸ h)
        have h2 := HBW.out
        omega
      · omega
    obtain ⟨b1, b2, b3, b4, e1, e2, e3, e4, ev, -, -, -⟩ := r2
    have EV2 : Hid (v' = .agg #[.int .i64 (S2.n : Int), .int .i64 (S2.d : Int), .int .i64 (S2.r : Int), .slice b1 S2.cr.length e1, .slice b2 S2.ws.length e2, .slice b3 S2.far.length e3, .slice b4 S2.bk.length e4]) := ev
    rw [EV2.out]
    have R2 : Hid (Bk w2 (p + 1 + 1) lz 30) := R1.out.next hb2
    have C2 : Hid (Bk w2 (p + 1 + 1 + 1) #[.int .i64 0, .int .u64 0] 35) := C1.out.next hb2
    have B2 : Hid (Below p w w2) := B1.out.trans (hb2.mono (by omega))
    have hz2 : p + 1 + 1 + 1 < w2.heap.size := Nat.lt_of_lt_of_le hz1 hb2.size
    clear V2 ev s2 hb2 P1 O1 R1 C1 B1 V1 hz1 o0 o1 o2 d0 d1 d2 d3 d4 d5 d6
    have R3 : Hid (Bk w2 (p + 1 + 1) lz 30) := R2.out
    have C3 : Hid (Bk w2 (p + 1 + 1 + 1) #[.int .i64 0, .int .u64 0] 35) := C2.out
    have B3 : Hid (Below p w w2) := B2.out
    have V3 : Hid (RefIn w2 v' S2) := VIN.out
    have HZ3 : Hid (w2.heap.size ≤ w2.heap.size) := Nat.le_refl _
    clear R2 C2 B2 VIN
    obtain ⟨v3, hv3⟩ : ∃ x, w2 = x := ⟨_, rfl⟩
    rw [hv3] at R3 C3 B3 V3 HZ3 SR ⊢
    clear hv3
    have d0 := R3.out.cell 0
    have d1 := R3.out.cell 1
    have d2 := R3.out.cell 2
    have d3 := R3.out.cell 3
    have d4 := R3.out.cell 4
    have d5 := R3.out.cell 5
    have d6 := R3.out.cell 6
    simp only [List.getElem?_toArray, List.getElem?_cons_zero, List.getElem?_cons_succ] at d0 d1 d2 d3 d4 d5 d6
    have z0 := R3.out.free 0
    have z1 := R3.out.free 1
    have z2 := R3.out.free 2
    have z3 := R3.out.free 3
    have z4 := R3.out.free 4
    have z5 := R3.out.free 5
    have z6 := R3.out.free 6
    have C4 : Bk ((((((((v3.setCell ⟨p + 1 + 1, 0, none⟩ (.int .i64 (S2.n : Int))).setCell ⟨p + 1 + 1, 1, none⟩ (.int .i64 (S2.d : Int))).setCell ⟨p + 1 + 1, 2, none⟩ (.int .i64 (S2.r : Int))).setCell ⟨p + 1 + 1, 3, none⟩ (.slice b1 S2.cr.length e1)).setCell ⟨p + 1 + 1, 4, none⟩ (.slice b2 S2.ws.length e2)).setCell ⟨p + 1 + 1, 5, none⟩ (.slice b3 S2.far.length e3)).setCell ⟨p + 1 + 1, 6, none⟩ (.slice b4 S2.bk.length e4))) (p + 1 + 1 + 1) #[.int .i64 0, .int .u64 0] 35 := seven_far C3.out (by omega) _ _ _ _ _ _ _
    have m0 := C4.cell 0
    have m1 := C4.cell 1
    simp only [List.getElem?_toArray, List.getElem?_cons_zero, List.getElem?_cons_succ] at m0 m1
    have n0 := C4.free 0
    have n1 := C4.free 1
    have YR : Bk ((((((((((v3.setCell ⟨p + 1 + 1, 0, none⟩ (.int .i64 (S2.n : Int))).setCell ⟨p + 1 + 1, 1, none⟩ (.int .i64 (S2.d : Int))).setCell ⟨p + 1 + 1, 2, none⟩ (.int .i64 (S2.r : Int))).setCell ⟨p + 1 + 1, 3, none⟩ (.slice b1 S2.cr.length e1)).setCell ⟨p + 1 + 1, 4, none⟩ (.slice b2 S2.ws.length e2)).setCell ⟨p + 1 + 1, 5, none⟩ (.slice b3 S2.far.length e3)).setCell ⟨p + 1 + 1, 6, none⟩ (.slice b4 S2.bk.length e4)).setCell ⟨p + 1 + 1 + 1, 0, none⟩ (.int .i64 cl)).setCell ⟨p + 1 + 1 + 1, 1, none⟩ (.int .u64 cw))) (p + 1 + 1) #[.int .i64 (S2.n : Int), .int .i64 (S2.d : Int), .int .i64 (S2.r : Int), .slice b1 S2.cr.length e1, .slice b2 S2.ws.length e2, .slice b3 S2.far.length e3, .slice b4 S2.bk.length e4] 30 := pair_far (seven_at R3.out _ _ _ _ _ _ _) (by omega) _ _
    have YC : Bk ((((((((((v3.setCell ⟨p + 1 + 1, 0, none⟩ (.int .i64 (S2.n : Int))).setCell ⟨p + 1 + 1, 1, none⟩ (.int .i64 (S2.d : Int))).setCell ⟨p + 1 + 1, 2, none⟩ (.int .i64 (S2.r : Int))).setCell ⟨p + 1 + 1, 3, none⟩ (.slice b1 S2.cr.length e1)).setCell ⟨p + 1 + 1, 4, none⟩ (.slice b2 S2.ws.length e2)).setCell ⟨p + 1 + 1, 5, none⟩ (.slice b3 S2.far.length e3)).setCell ⟨p + 1 + 1, 6, none⟩ (.slice b4 S2.bk.length e4)).setCell ⟨p + 1 + 1 + 1, 0, none⟩ (.int .i64 cl)).setCell ⟨p + 1 + 1 + 1, 1, none⟩ (.int .u64 cw))) (p + 1 + 1 + 1) #[(.int .i64 cl), (.int .u64 cw)] 35 := pair_at C4 _ _
    have y0 := YR.cell 0
    have y1 := YR.cell 1
    have y2 := YR.cell 2
    have y3 := YR.cell 3
    have y4 := YR.cell 4
    have y5 := YR.cell 5
    have y6 := YR.cell 6
    simp only [List.getElem?_toArray, List.getElem?_cons_zero, List.getElem?_cons_succ] at y0 y1 y2 y3 y4 y5 y6
    have x0 := YC.cell 0
    have x1 := YC.cell 1
    simp only [List.getElem?_toArray, List.getElem?_cons_zero, List.getElem?_cons_succ] at x0 x1
    clear YR YC C4
    go_wp2
    refine bodyPost_ret (v := .tuple #[.agg #[.int .i64 (S2.n : Int), .int .i64 (S2.d : Int), .int .i64 (S2.r : Int), .slice b1 S2.cr.length e1, .slice b2 S2.ws.length e2, .slice b3 S2.far.length e3, .slice b4 S2.bk.length e4], .agg #[(.int .i64 cl), (.int .u64 cw)], .int .i64 er]) ?_ rfl ?_
    · simp [results, Try.results15, go_sem, y0, y1, y2, y3, y4, y5, y6, x0, x1]
      try rfl
    · refine ⟨v', ?_, ?_, ?_, ?_⟩
      · rw [EV2.out]
        show _ = Ending.returned (.tuple #[_, cv (carryF S).2.1, .int .i64 (carryF S).2.2])
        rw [HER.out, HCC.out]
      · show RefIn _ v' (carryF S).1
        rw [HS2.out]
        exact V3.out.nine (fun h => by have := NOT.out _ h; omega) (fun h => by have := NOT.out _ h; omega) _ _ _ _ _ _ _ _ _
      · rw [HBW.out]
        exact ((below_seven B3.out (by omega) _ _ _ _ _ _ _).setCell (by show p ≤ p + 1 + 1 + 1; omega) _).setCell (by show p ≤ p + 1 + 1 + 1; omega) _
      · rw [HBW.out]
        exact SR.out.mono (Nat.le_refl _) (by have h := HZ3.out; first | (simp; omega) | simp)
  · have V2 := rtaken HOK.out V1.out la
    simp only at *
    obtain ⟨S2, hS2⟩ : ∃ s, (takenF S la).1 = s := ⟨_, rfl⟩
    obtain ⟨er, her⟩ : ∃ s, (takenF S la).2 = s := ⟨_, rfl⟩
    have HS2 : Hid ((takenF S la).1 = S2) := hS2
    have HER : Hid ((takenF S la).2 = er) := her
    rw [hS2, her] at V2
    clear hS2 her
    go_wp2_with fail
    go_at_call 36
    refine V2.mono ?_
    rintro e' w2 ⟨v', rfl, r2, hb2, s2⟩
    have SR : Hid (Src p w2.heap.size (.agg #[.int .i64 (S.n : Int), .int .i64 (S.d : Int), .int .i64 (S.r : Int), .slice a1 S.cr.length c1, .slice a2 S.ws.length c2, .slice a3 S.far.length c3, .slice a4 S.bk.length c4]) v') := show Src p w2.heap.size (.agg #[.int .i64 (S.n : Int), .int .i64 (S.d : Int), .int .i64 (S.r : Int), .slice a1 S.cr.length c1, .slice a2 S.ws.length c2, .slice a3 S.far.length c3, .slice a4 S.bk.length c4]) v' from s2.mono (by omega) (Nat.le_refl _)
    have VIN : Hid (RefIn w2 v' S2) := show RefIn w2 v' S2 from ⟨r2, fun g hg => by
      rcases s2 g hg with h | h
      · have h1 := HV.out.lt g (EV.out ▸ h)
        have h2 := HBW.out
        have h3 := hb2.size
        omega
      · exact h.2⟩
    have NOT : Hid (∀ g, Vb v' g → g < p ∨ p + 1 + 1 + 1 < g) := show ∀ g, Vb v' g → g < p ∨ p + 1 + 1 + 1 < g from fun g hg => by
      rcases s2 g hg with h | h
      · have h1 := HV.out.lt g (EV.out ▸ h)
        have h2 := HBW.out
        omega
      · omega
    obtain ⟨b1, b2, b3, b4, e1, e2, e3, e4, ev, -, -, -⟩ := r2
    have EV2 : Hid (v' = .agg #[.int .i64 (S2.n : Int), .int .i64 (S2.d : Int), .int .i64 (S2.r : Int), .slice b1 S2.cr.length e1, .slice b2 S2.ws.length e2, .slice b3 S2.far.length e3, .slice b4 S2.bk.length e4]) := ev
    rw [EV2.out]
    have R2 : Hid (Bk w2 (p + 1 + 1) lz 30) := R1.out.next hb2
    have C2 : Hid (Bk w2 (p + 1 + 1 + 1) #[.int .i64 0, .int .u64 0] 35) := C1.out.next hb2
    have B2 : Hid (Below p w w2) := B1.out.trans (hb2.mono (by omega))
    have hz2 : p + 1 + 1 + 1 < w2.heap.size := Nat.lt_of_lt_of_le hz1 hb2.size
    clear V2 ev s2 hb2 P1 O1 R1 C1 B1 V1 hz1 o0 o1 o2 d0 d1 d2 d3 d4 d5 d6
    go_upto_region 9 with fail
    have Q3 : Hid (Bk (w2.alloc (.cells #[.int .i64 (S2.n : Int), .int .i64 (S2.d : Int), .int .i64 (S2.r : Int), .slice b1 S2.cr.length e1, .slice b2 S2.ws.length e2, .slice b3 S2.far.length e3, .slice b4 S2.bk.length e4] 30)) w2.heap.size #[.int .i64 (S2.n : Int), .int .i64 (S2.d : Int), .int .i64 (S2.r : Int), .slice b1 S2.cr.length e1, .slice b2 S2.ws.length e2, .slice b3 S2.far.length e3, .slice b4 S2.bk.length e4] 30) := Bk.new _ _ _
    have R3 : Hid (Bk (w2.alloc (.cells #[.int .i64 (S2.n : Int), .int .i64 (S2.d : Int), .int .i64 (S2.r : Int), .slice b1 S2.cr.length e1, .slice b2 S2.ws.length e2, .slice b3 S2.far.length e3, .slice b4 S2.bk.length e4] 30)) (p + 1 + 1) lz 30) := R2.out.alloc _
    have C3 : Hid (Bk (w2.alloc (.cells #[.int .i64 (S2.n : Int), .int .i64 (S2.d : Int), .int .i64 (S2.r : Int), .slice b1 S2.cr.length e1, .slice b2 S2.ws.length e2, .slice b3 S2.far.length e3, .slice b4 S2.bk.length e4] 30)) (p + 1 + 1 + 1) #[.int .i64 0, .int .u64 0] 35) := C2.out.alloc _
    have B3 : Hid (Below p w (w2.alloc (.cells #[.int .i64 (S2.n : Int), .int .i64 (S2.d : Int), .int .i64 (S2.r : Int), .slice b1 S2.cr.length e1, .slice b2 S2.ws.length e2, .slice b3 S2.far.length e3, .slice b4 S2.bk.length e4] 30))) := B2.out.alloc (by omega) _
    have V3 : Hid (RefIn (w2.alloc (.cells #[.int .i64 (S2.n : Int), .int .i64 (S2.d : Int), .int .i64 (S2.r : Int), .slice b1 S2.cr.length e1, .slice b2 S2.ws.length e2, .slice b3 S2.far.length e3, .slice b4 S2.bk.length e4] 30)) v' S2) := VIN.out.below ((Below.refl _ _).alloc (Nat.le_refl _) _)
    have HZ3 : Hid (w2.heap.size ≤ (w2.alloc (.cells #[.int .i64 (S2.n : Int), .int .i64 (S2.d : Int), .int .i64 (S2.r : Int), .slice b1 S2.cr.length e1, .slice b2 S2.ws.length e2, .slice b3 S2.far.length e3, .slice b4 S2.bk.length e4] 30)).heap.size) := show w2.heap.size ≤ (w2.alloc (.cells #[.int .i64 (S2.n : Int), .int .i64 (S2.d : Int), .int .i64 (S2.r : Int), .slice b1 S2.cr.length e1, .slice b2 S2.ws.length e2, .slice b3 S2.far.length e3, .slice b4 S2.bk.length e4] 30)).heap.size from by simp
    clear R2 C2 B2 VIN
    generalize w2.alloc (.cells #[.int .i64 (S2.n : Int), .int .i64 (S2.d : Int), .int .i64 (S2.r : Int), .slice b1 S2.cr.length e1, .slice b2 S2.ws.length e2, .slice b3 S2.far.length e3, .slice b4 S2.bk.length e4] 30) = v3 at *
    generalize hqb : w2.heap.size = qb at *
    have q0 := Q3.out.cell 0
    have q1 := Q3.out.cell 1
    have q2 := Q3.out.cell 2
    have q3 := Q3.out.cell 3
    have q4 := Q3.out.cell 4
    have q5 := Q3.out.cell 5
    have q6 := Q3.out.cell 6
    simp only [List.getElem?_toArray, List.getElem?_cons_zero, List.getElem?_cons_succ] at q0 q1 q2 q3 q4 q5 q6
    have d0 := R3.out.cell 0
    have d1 := R3.out.cell 1
    have d2 := R3.out.cell 2
    have d3 := R3.out.cell 3
    have d4 := R3.out.cell 4
    have d5 := R3.out.cell 5
    have d6 := R3.out.cell 6
    simp only [List.getElem?_toArray, List.getElem?_cons_zero, List.getElem?_cons_succ] at d0 d1 d2 d3 d4 d5 d6
    have z0 := R3.out.free 0
    have z1 := R3.out.free 1
    have z2 := R3.out.free 2
    have z3 := R3.out.free 3
    have z4 := R3.out.free 4
    have z5 := R3.out.free 5
    have z6 := R3.out.free 6
    have C4 : Bk ((((((((v3.setCell ⟨p + 1 + 1, 0, none⟩ (.int .i64 (S2.n : Int))).setCell ⟨p + 1 + 1, 1, none⟩ (.int .i64 (S2.d : Int))).setCell ⟨p + 1 + 1, 2, none⟩ (.int .i64 (S2.r : Int))).setCell ⟨p + 1 + 1, 3, none⟩ (.slice b1 S2.cr.length e1)).setCell ⟨p + 1 + 1, 4, none⟩ (.slice b2 S2.ws.length e2)).setCell ⟨p + 1 + 1, 5, none⟩ (.slice b3 S2.far.length e3)).setCell ⟨p + 1 + 1, 6, none⟩ (.slice b4 S2.bk.length e4))) (p + 1 + 1 + 1) #[.int .i64 0, .int .u64 0] 35 := seven_far C3.out (by omega) _ _ _ _ _ _ _
    have m0 := C4.cell 0
    have m1 := C4.cell 1
    simp only [List.getElem?_toArray, List.getElem?_cons_zero, List.getElem?_cons_succ] at m0 m1
    have n0 := C4.free 0
    have n1 := C4.free 1
    have YR : Bk ((((((((((v3.setCell ⟨p + 1 + 1, 0, none⟩ (.int .i64 (S2.n : Int))).setCell ⟨p + 1 + 1, 1, none⟩ (.int .i64 (S2.d : Int))).setCell ⟨p + 1 + 1, 2, none⟩ (.int .i64 (S2.r : Int))).setCell ⟨p + 1 + 1, 3, none⟩ (.slice b1 S2.cr.length e1)).setCell ⟨p + 1 + 1, 4, none⟩ (.slice b2 S2.ws.length e2)).setCell ⟨p + 1 + 1, 5, none⟩ (.slice b3 S2.far.length e3)).setCell ⟨p + 1 + 1, 6, none⟩ (.slice b4 S2.bk.length e4)).setCell ⟨p + 1 + 1 + 1, 0, none⟩ (.int .i64 0)).setCell ⟨p + 1 + 1 + 1, 1, none⟩ (.int .u64 0))) (p + 1 + 1) #[.int .i64 (S2.n : Int), .int .i64 (S2.d : Int), .int .i64 (S2.r : Int), .slice b1 S2.cr.length e1, .slice b2 S2.ws.length e2, .slice b3 S2.far.length e3, .slice b4 S2.bk.length e4] 30 := pair_far (seven_at R3.out _ _ _ _ _ _ _) (by omega) _ _
    have YC : Bk ((((((((((v3.setCell ⟨p + 1 + 1, 0, none⟩ (.int .i64 (S2.n : Int))).setCell ⟨p + 1 + 1, 1, none⟩ (.int .i64 (S2.d : Int))).setCell ⟨p + 1 + 1, 2, none⟩ (.int .i64 (S2.r : Int))).setCell ⟨p + 1 + 1, 3, none⟩ (.slice b1 S2.cr.length e1)).setCell ⟨p + 1 + 1, 4, none⟩ (.slice b2 S2.ws.length e2)).setCell ⟨p + 1 + 1, 5, none⟩ (.slice b3 S2.far.length e3)).setCell ⟨p + 1 + 1, 6, none⟩ (.slice b4 S2.bk.length e4)).setCell ⟨p + 1 + 1 + 1, 0, none⟩ (.int .i64 0)).setCell ⟨p + 1 + 1 + 1, 1, none⟩ (.int .u64 0))) (p + 1 + 1 + 1) #[(.int .i64 0), (.int .u64 0)] 35 := pair_at C4 _ _
    have y0 := YR.cell 0
    have y1 := YR.cell 1
    have y2 := YR.cell 2
    have y3 := YR.cell 3
    have y4 := YR.cell 4
    have y5 := YR.cell 5
    have y6 := YR.cell 6
    simp only [List.getElem?_toArray, List.getElem?_cons_zero, List.getElem?_cons_succ] at y0 y1 y2 y3 y4 y5 y6
    have x0 := YC.cell 0
    have x1 := YC.cell 1
    simp only [List.getElem?_toArray, List.getElem?_cons_zero, List.getElem?_cons_succ] at x0 x1
    clear YR YC C4
    go_wp2
    refine bodyPost_ret (v := .tuple #[.agg #[.int .i64 (S2.n : Int), .int .i64 (S2.d : Int), .int .i64 (S2.r : Int), .slice b1 S2.cr.length e1, .slice b2 S2.ws.length e2, .slice b3 S2.far.length e3, .slice b4 S2.bk.length e4], .agg #[(.int .i64 0), (.int .u64 0)], .int .i64 er]) ?_ rfl ?_
    · simp [results, Try.results15, go_sem, y0, y1, y2, y3, y4, y5, y6, x0, x1]
      try rfl
    · refine ⟨v', ?_, ?_, ?_, ?_⟩
      · rw [EV2.out]
        show _ = Ending.returned (.tuple #[_, cv zc, .int .i64 (takenF S la).2])
        rw [HER.out]; rfl
      · show RefIn _ v' (takenF S la).1
        rw [HS2.out]
        exact V3.out.nine (fun h => by have := NOT.out _ h; omega) (fun h => by have := NOT.out _ h; omega) _ _ _ _ _ _ _ _ _
      · rw [HBW.out]
        exact ((below_seven B3.out (by omega) _ _ _ _ _ _ _).setCell (by show p ≤ p + 1 + 1 + 1; omega) _).setCell (by show p ≤ p + 1 + 1 + 1; omega) _
      · rw [HBW.out]
        exact SR.out.mono (Nat.le_refl _) (by have h := HZ3.out; first | (simp; omega) | simp)
  · have V2 := rcredit HOK.out V1.out
    simp only at *
    obtain ⟨S2, hS2⟩ : ∃ s, (creditF S).1 = s := ⟨_, rfl⟩
    obtain ⟨er, her⟩ : ∃ s, (creditF S).2 = s := ⟨_, rfl⟩
    have HS2 : Hid ((creditF S).1 = S2) := hS2
    have HER : Hid ((creditF S).2 = er) := her
    rw [hS2, her] at V2
    clear hS2 her
    go_wp2_with fail
    go_at_call 37
    refine V2.mono ?_
    rintro e' w2 ⟨v', rfl, r2, hb2, s2⟩
    have SR : Hid (Src p w2.heap.size (.agg #[.int .i64 (S.n : Int), .int .i64 (S.d : Int), .int .i64 (S.r : Int), .slice a1 S.cr.length c1, .slice a2 S.ws.length c2, .slice a3 S.far.length c3, .slice a4 S.bk.length c4]) v') := show Src p w2.heap.size (.agg #[.int .i64 (S.n : Int), .int .i64 (S.d : Int), .int .i64 (S.r : Int), .slice a1 S.cr.length c1, .slice a2 S.ws.length c2, .slice a3 S.far.length c3, .slice a4 S.bk.length c4]) v' from s2.mono (by omega) (Nat.le_refl _)
    have VIN : Hid (RefIn w2 v' S2) := show RefIn w2 v' S2 from ⟨r2, fun g hg => by
      rcases s2 g hg with h | h
      · have h1 := HV.out.lt g (EV.out ▸ h)
        have h2 := HBW.out
        have h3 := hb2.size
        omega
      · exact h.2⟩
    have NOT : Hid (∀ g, Vb v' g → g < p ∨ p + 1 + 1 + 1 < g) := show ∀ g, Vb v' g → g < p ∨ p + 1 + 1 + 1 < g from fun g hg => by
      rcases s2 g hg with h | h
      · have h1 := HV.out.lt g (EV.out ▸ h)
        have h2 := HBW.out
        omega
      · omega
    obtain ⟨b1, b2, b3, b4, e1, e2, e3, e4, ev, -, -, -⟩ := r2
    have EV2 : Hid (v' = .agg #[.int .i64 (S2.n : Int), .int .i64 (S2.d : Int), .int .i64 (S2.r : Int), .slice b1 S2.cr.length e1, .slice b2 S2.ws.length e2, .slice b3 S2.far.length e3, .slice b4 S2.bk.length e4]) := ev
    rw [EV2.out]
    have R2 : Hid (Bk w2 (p + 1 + 1) lz 30) := R1.out.next hb2
    have C2 : Hid (Bk w2 (p + 1 + 1 + 1) #[.int .i64 0, .int .u64 0] 35) := C1.out.next hb2
    have B2 : Hid (Below p w w2) := B1.out.trans (hb2.mono (by omega))
    have hz2 : p + 1 + 1 + 1 < w2.heap.size := Nat.lt_of_lt_of_le hz1 hb2.size
    clear V2 ev s2 hb2 P1 O1 R1 C1 B1 V1 hz1 o0 o1 o2 d0 d1 d2 d3 d4 d5 d6
    go_upto_region 11 with fail
    have Q3 : Hid (Bk (w2.alloc (.cells #[.int .i64 (S2.n : Int), .int .i64 (S2.d : Int), .int .i64 (S2.r : Int), .slice b1 S2.cr.length e1, .slice b2 S2.ws.length e2, .slice b3 S2.far.length e3, .slice b4 S2.bk.length e4] 30)) w2.heap.size #[.int .i64 (S2.n : Int), .int .i64 (S2.d : Int), .int .i64 (S2.r : Int), .slice b1 S2.cr.length e1, .slice b2 S2.ws.length e2, .slice b3 S2.far.length e3, .slice b4 S2.bk.length e4] 30) := Bk.new _ _ _
    have R3 : Hid (Bk (w2.alloc (.cells #[.int .i64 (S2.n : Int), .int .i64 (S2.d : Int), .int .i64 (S2.r : Int), .slice b1 S2.cr.length e1, .slice b2 S2.ws.length e2, .slice b3 S2.far.length e3, .slice b4 S2.bk.length e4] 30)) (p + 1 + 1) lz 30) := R2.out.alloc _
    have C3 : Hid (Bk (w2.alloc (.cells #[.int .i64 (S2.n : Int), .int .i64 (S2.d : Int), .int .i64 (S2.r : Int), .slice b1 S2.cr.length e1, .slice b2 S2.ws.length e2, .slice b3 S2.far.length e3, .slice b4 S2.bk.length e4] 30)) (p + 1 + 1 + 1) #[.int .i64 0, .int .u64 0] 35) := C2.out.alloc _
    have B3 : Hid (Below p w (w2.alloc (.cells #[.int .i64 (S2.n : Int), .int .i64 (S2.d : Int), .int .i64 (S2.r : Int), .slice b1 S2.cr.length e1, .slice b2 S2.ws.length e2, .slice b3 S2.far.length e3, .slice b4 S2.bk.length e4] 30))) := B2.out.alloc (by omega) _
    have V3 : Hid (RefIn (w2.alloc (.cells #[.int .i64 (S2.n : Int), .int .i64 (S2.d : Int), .int .i64 (S2.r : Int), .slice b1 S2.cr.length e1, .slice b2 S2.ws.length e2, .slice b3 S2.far.length e3, .slice b4 S2.bk.length e4] 30)) v' S2) := VIN.out.below ((Below.refl _ _).alloc (Nat.le_refl _) _)
    have HZ3 : Hid (w2.heap.size ≤ (w2.alloc (.cells #[.int .i64 (S2.n : Int), .int .i64 (S2.d : Int), .int .i64 (S2.r : Int), .slice b1 S2.cr.length e1, .slice b2 S2.ws.length e2, .slice b3 S2.far.length e3, .slice b4 S2.bk.length e4] 30)).heap.size) := show w2.heap.size ≤ (w2.alloc (.cells #[.int .i64 (S2.n : Int), .int .i64 (S2.d : Int), .int .i64 (S2.r : Int), .slice b1 S2.cr.length e1, .slice b2 S2.ws.length e2, .slice b3 S2.far.length e3, .slice b4 S2.bk.length e4] 30)).heap.size from by simp
    clear R2 C2 B2 VIN
    generalize w2.alloc (.cells #[.int .i64 (S2.n : Int), .int .i64 (S2.d : Int), .int .i64 (S2.r : Int), .slice b1 S2.cr.length e1, .slice b2 S2.ws.length e2, .slice b3 S2.far.length e3, .slice b4 S2.bk.length e4] 30) = v3 at *
    generalize hqb : w2.heap.size = qb at *
    have q0 := Q3.out.cell 0
    have q1 := Q3.out.cell 1
    have q2 := Q3.out.cell 2
    have q3 := Q3.out.cell 3
    have q4 := Q3.out.cell 4
    have q5 := Q3.out.cell 5
    have q6 := Q3.out.cell 6
    simp only [List.getElem?_toArray, List.getElem?_cons_zero, List.getElem?_cons_succ] at q0 q1 q2 q3 q4 q5 q6
    have d0 := R3.out.cell 0
    have d1 := R3.out.cell 1
    have d2 := R3.out.cell 2
    have d3 := R3.out.cell 3
    have d4 := R3.out.cell 4
    have d5 := R3.out.cell 5
    have d6 := R3.out.cell 6
    simp only [List.getElem?_toArray, List.getElem?_cons_zero, List.getElem?_cons_succ] at d0 d1 d2 d3 d4 d5 d6
    have z0 := R3.out.free 0
    have z1 := R3.out.free 1
    have z2 := R3.out.free 2
    have z3 := R3.out.free 3
    have z4 := R3.out.free 4
    have z5 := R3.out.free 5
    have z6 := R3.out.free 6
    have C4 : Bk ((((((((v3.setCell ⟨p + 1 + 1, 0, none⟩ (.int .i64 (S2.n : Int))).setCell ⟨p + 1 + 1, 1, none⟩ (.int .i64 (S2.d : Int))).setCell ⟨p + 1 + 1, 2, none⟩ (.int .i64 (S2.r : Int))).setCell ⟨p + 1 + 1, 3, none⟩ (.slice b1 S2.cr.length e1)).setCell ⟨p + 1 + 1, 4, none⟩ (.slice b2 S2.ws.length e2)).setCell ⟨p + 1 + 1, 5, none⟩ (.slice b3 S2.far.length e3)).setCell ⟨p + 1 + 1, 6, none⟩ (.slice b4 S2.bk.length e4))) (p + 1 + 1 + 1) #[.int .i64 0, .int .u64 0] 35 := seven_far C3.out (by omega) _ _ _ _ _ _ _
    have m0 := C4.cell 0
    have m1 := C4.cell 1
    simp only [List.getElem?_toArray, List.getElem?_cons_zero, List.getElem?_cons_succ] at m0 m1
    have n0 := C4.free 0
    have n1 := C4.free 1
    have YR : Bk ((((((((((v3.setCell ⟨p + 1 + 1, 0, none⟩ (.int .i64 (S2.n : Int))).setCell ⟨p + 1 + 1, 1, none⟩ (.int .i64 (S2.d : Int))).setCell ⟨p + 1 + 1, 2, none⟩ (.int .i64 (S2.r : Int))).setCell ⟨p + 1 + 1, 3, none⟩ (.slice b1 S2.cr.length e1)).setCell ⟨p + 1 + 1, 4, none⟩ (.slice b2 S2.ws.length e2)).setCell ⟨p + 1 + 1, 5, none⟩ (.slice b3 S2.far.length e3)).setCell ⟨p + 1 + 1, 6, none⟩ (.slice b4 S2.bk.length e4)).setCell ⟨p + 1 + 1 + 1, 0, none⟩ (.int .i64 0)).setCell ⟨p + 1 + 1 + 1, 1, none⟩ (.int .u64 0))) (p + 1 + 1) #[.int .i64 (S2.n : Int), .int .i64 (S2.d : Int), .int .i64 (S2.r : Int), .slice b1 S2.cr.length e1, .slice b2 S2.ws.length e2, .slice b3 S2.far.length e3, .slice b4 S2.bk.length e4] 30 := pair_far (seven_at R3.out _ _ _ _ _ _ _) (by omega) _ _
    have YC : Bk ((((((((((v3.setCell ⟨p + 1 + 1, 0, none⟩ (.int .i64 (S2.n : Int))).setCell ⟨p + 1 + 1, 1, none⟩ (.int .i64 (S2.d : Int))).setCell ⟨p + 1 + 1, 2, none⟩ (.int .i64 (S2.r : Int))).setCell ⟨p + 1 + 1, 3, none⟩ (.slice b1 S2.cr.length e1)).setCell ⟨p + 1 + 1, 4, none⟩ (.slice b2 S2.ws.length e2)).setCell ⟨p + 1 + 1, 5, none⟩ (.slice b3 S2.far.length e3)).setCell ⟨p + 1 + 1, 6, none⟩ (.slice b4 S2.bk.length e4)).setCell ⟨p + 1 + 1 + 1, 0, none⟩ (.int .i64 0)).setCell ⟨p + 1 + 1 + 1, 1, none⟩ (.int .u64 0))) (p + 1 + 1 + 1) #[(.int .i64 0), (.int .u64 0)] 35 := pair_at C4 _ _
    have y0 := YR.cell 0
    have y1 := YR.cell 1
    have y2 := YR.cell 2
    have y3 := YR.cell 3
    have y4 := YR.cell 4
    have y5 := YR.cell 5
    have y6 := YR.cell 6
    simp only [List.getElem?_toArray, List.getElem?_cons_zero, List.getElem?_cons_succ] at y0 y1 y2 y3 y4 y5 y6
    have x0 := YC.cell 0
    have x1 := YC.cell 1
    simp only [List.getElem?_toArray, List.getElem?_cons_zero, List.getElem?_cons_succ] at x0 x1
    clear YR YC C4
    go_wp2
    refine bodyPost_ret (v := .tuple #[.agg #[.int .i64 (S2.n : Int), .int .i64 (S2.d : Int), .int .i64 (S2.r : Int), .slice b1 S2.cr.length e1, .slice b2 S2.ws.length e2, .slice b3 S2.far.length e3, .slice b4 S2.bk.length e4], .agg #[(.int .i64 0), (.int .u64 0)], .int .i64 er]) ?_ rfl ?_
    · simp [results, Try.results15, go_sem, y0, y1, y2, y3, y4, y5, y6, x0, x1]
      try rfl
    · refine ⟨v', ?_, ?_, ?_, ?_⟩
      · rw [EV2.out]
        show _ = Ending.returned (.tuple #[_, cv zc, .int .i64 (creditF S).2])
        rw [HER.out]; rfl
      · show RefIn _ v' (creditF S).1
        rw [HS2.out]
        exact V3.out.nine (fun h => by have := NOT.out _ h; omega) (fun h => by have := NOT.out _ h; omega) _ _ _ _ _ _ _ _ _
      · rw [HBW.out]
        exact ((below_seven B3.out (by omega) _ _ _ _ _ _ _).setCell (by show p ≤ p + 1 + 1 + 1; omega) _).setCell (by show p ≤ p + 1 + 1 + 1; omega) _
      · rw [HBW.out]
        exact SR.out.mono (Nat.le_refl _) (by have h := HZ3.out; first | (simp; omega) | simp)
end Go.Proofs.Ytihfekcdghmkhaa
