/-
  The program's lane: a new one; what is told of it; a word put; a lane given.
-/
import Derived.Test.YtkigeakaedkjpaaKRead
namespace Go.Proofs.Ytkigeakaedkjpaa
open Go.RowKit

theorem new_ways (n : Int) : (n < 1 ∧ (((min (max n 1) 64).toNat : Nat) : Int) = 1) ∨ (n = 1 ∧ (((min (max n 1) 64).toNat : Nat) : Int) = 1) ∨ (1 < n ∧ n < 64 ∧ (((min (max n 1) 64).toNat : Nat) : Int) = n) ∨ (n = 64 ∧ (((min (max n 1) 64).toNat : Nat) : Int) = 64) ∨ (64 < n ∧ (((min (max n 1) 64).toNat : Nat) : Int) = 64) := by omega
theorem kn_new {w w' : World} {r p : Nat} {n R : Int} (hR : (((min (max n 1) 64).toNat : Nat) : Int) = R) (h : RU.RingAt w' r r 0 (RU.ring0 R 0)) (hb : Below w.heap.size w w') (hr : w.heap.size ≤ r) (hp : w'.heap.size = p) :
    Kn (w'.alloc (.cells #[.pointer (some ⟨r, 0, none⟩), .int .i64 0, .int .i64 0, .int .i64 0, .bool false] 71)) p (newK n) (fk p r r) ∧ (∀ g, fk p r r g → w.heap.size ≤ g) ∧ Below w.heap.size w (w'.alloc (.cells #[.pointer (some ⟨r, 0, none⟩), .int .i64 0, .int .i64 0, .int .i64 0, .bool false] 71)) := by
  subst hp
  have hl := h.lt.1
  have hs := hb.size
  refine ⟨⟨KOk.new n, r, r, 0, _, ⟨fun _ => rfl, Bk.new _ _ _, h.below ((Below.refl _ _).alloc (Nat.le_refl _) _) (Nat.le_refl _), ⟨by omega, by omega⟩, ?_, rfl, rfl⟩, rfl⟩, ?_, hb.alloc hs _⟩
  · show R = _
    rw [← hR]
    rfl
  · rintro g (rfl | rfl | rfl) <;> omega
theorem lane_new (n : Int) (w : World) : Calls Try.prog 11 #[.int .i64 n] w fun e w' => ∃ p F, e = .returned (.pointer (some ⟨p, 0, none⟩)) ∧ Kn w' p (newK n) F ∧ (∀ g, F g → w.heap.size ≤ g) ∧ Below w.heap.size w w' := by
  have HW := new_ways n
  obtain ⟨R, hR⟩ : ∃ R : Int, (((min (max n 1) 64).toNat : Nat) : Int) = R := ⟨_, rfl⟩
  have HR : Hid ((((min (max n 1) 64).toNat : Nat) : Int) = R) := hR
  rw [hR] at HW
  clear hR
  rcases HW with ⟨a, rfl⟩ | ⟨rfl, rfl⟩ | ⟨a, a2, rfl⟩ | ⟨rfl, rfl⟩ | ⟨a, rfl⟩
  · have C : Calls Try.prog 28 #[.int .i64 1, .int .u32 0] w fun e w' => e = .returned (.pointer (some ⟨w.heap.size, 0, none⟩)) ∧ RU.RingAt w' w.heap.size w.heap.size 0 (RU.ring0 1 0) ∧ Below w.heap.size w w' ∧ w.heap.size < w'.heap.size := RU.ring_new 1 0 (by decide) w
    go_enter Try.func11, Try.ntmps11
    go_wp2_with (go_at_call 28; with_reducible refine C.mono ?_; rintro e w1 ⟨rfl, hI, hb, hs⟩)
    go_ret
    exact ⟨w1.heap.size, fk w1.heap.size w.heap.size w.heap.size, rfl, kn_new HR.out hI hb (Nat.le_refl _) rfl⟩
  · have C : Calls Try.prog 28 #[.int .i64 1, .int .u32 0] w fun e w' => e = .returned (.pointer (some ⟨w.heap.size, 0, none⟩)) ∧ RU.RingAt w' w.heap.size w.heap.size 0 (RU.ring0 1 0) ∧ Below w.heap.size w w' ∧ w.heap.size < w'.heap.size := RU.ring_new 1 0 (by decide) w
    go_enter Try.func11, Try.ntmps11
    go_wp2_with (go_at_call 28; with_reducible refine C.mono ?_; rintro e w1 ⟨rfl, hI, hb, hs⟩)
    go_ret
    exact ⟨w1.heap.size, fk w1.heap.size w.heap.size w.heap.size, rfl, kn_new HR.out hI hb (Nat.le_refl _) rfl⟩
  · have C : Calls Try.prog 28 #[.int .i64 R, .int .u32 0] w fun e w' => e = .returned (.pointer (some ⟨w.heap.size, 0, none⟩)) ∧ RU.RingAt w' w.heap.size w.heap.size 0 (RU.ring0 R 0) ∧ Below w.heap.size w w' ∧ w.heap.size < w'.heap.size := RU.ring_new R 0 (by decide) w
    go_enter Try.func11, Try.ntmps11
    go_wp2_with (go_at_call 28; with_reducible refine C.mono ?_; rintro e w1 ⟨rfl, hI, hb, hs⟩)
    go_ret
    exact ⟨w1.heap.size, fk w1.heap.size w.heap.size w.heap.size, rfl, kn_new HR.out hI hb (Nat.le_refl _) rfl⟩
  · have C : Calls Try.prog 28 #[.int .i64 64, .int .u32 0] w fun e w' => e = .returned (.pointer (some ⟨w.heap.size, 0, none⟩)) ∧ RU.RingAt w' w.heap.size w.heap.size 0 (RU.ring0 64 0) ∧ Below w.heap.size w w' ∧ w.heap.size < w'.heap.size := RU.ring_new 64 0 (by decide) w
    go_enter Try.func11, Try.ntmps11
    go_wp2_with (go_at_call 28; with_reducible refine C.mono ?_; rintro e w1 ⟨rfl, hI, hb, hs⟩)
    go_ret
    exact ⟨w1.heap.size, fk w1.heap.size w.heap.size w.heap.size, rfl, kn_new HR.out hI hb (Nat.le_refl _) rfl⟩
  · have C : Calls Try.prog 28 #[.int .i64 64, .int .u32 0] w fun e w' => e = .returned (.pointer (some ⟨w.heap.size, 0, none⟩)) ∧ RU.RingAt w' w.heap.size w.heap.size 0 (RU.ring0 64 0) ∧ Below w.heap.size w w' ∧ w.heap.size < w'.heap.size := RU.ring_new 64 0 (by decide) w
    go_enter Try.func11, Try.ntmps11
    go_wp2_with (go_at_call 28; with_reducible refine C.mono ?_; rintro e w1 ⟨rfl, hI, hb, hs⟩)
    go_ret
    exact ⟨w1.heap.size, fk w1.heap.size w.heap.size w.heap.size, rfl, kn_new HR.out hI hb (Nat.le_refl _) rfl⟩
section
variable {w : World} {b : Nat} {S : KS} {F : Nat → Prop}
theorem look_any {r pr mr : Nat} {sr : RU.RingSt} (h : KnAt w b S r pr mr sr) : Calls Try.prog 29 #[.pointer (some ⟨b, 0, none⟩)] w fun e w' => e = .returned (.agg (stc S r)) ∧ Below w.heap.size w w' := look_blk h.blk ⟨r, rfl⟩
set_option maxHeartbeats 1000000 in
theorem lane_put (h : Kn w b S F) (x : Nat) (hx : x < 18446744073709551616) : Calls Try.prog 12 #[.pointer (some ⟨b, 0, none⟩), .int .u64 (x : Int)] w fun e w' => ∃ F', e = .returned (.int .i64 (putK S x).2) ∧ Kn w' b (putK S x).1 F' ∧ Gr F w w' F' := by
  obtain ⟨ok, r, pr, mr, sr, hk, rfl⟩ := h
  have LC := look_any hk
  have ok' : Hid (KOk (putK S x).1) := ok.put hx
  obtain ⟨k1, k2, k3, k4⟩ := push_kn ok hk.room hk.laid hk.xs x
  obtain ⟨p1, p2, p3, p4, p5⟩ := putK_same S x
  have PC : ∀ v : World, RU.RingAt v r pr mr sr → Calls Try.prog 30 #[.pointer (some ⟨r, 0, none⟩), .int .u64 (x : Int)] v fun e w' => e = .returned (.int .i64 (putK S x).2) ∧ RU.Stp r pr v w' (RU.pushS sr (x : Int)) := fun v hv => by
    have := RU.ring_push hv (x : Int)
    rwa [k1] at this
  have ST : Hid (∀ v w' : World, KnAt v b S r pr mr sr → RU.Stp r pr v w' (RU.pushS sr (x : Int)) → ∃ pr' mr', KnAt w' b (putK S x).1 r pr' mr' (RU.pushS sr (x : Int)) ∧ Gr (fk b r pr) v w' (fk b r pr')) := show _ from fun v w' hv hs =>
    hv.step hs (by simp only [stc, p2, p3, p4, p5]) p1 (by rw [p2, p4]; exact hv.lz) k2 k3 k4
  have HK : Hid (KnAt w b S r pr mr sr) := hk
  have PX : Hid _ := PC
  clear k1 k2 k3 k4 p1 p2 p3 p4 p5 hk PC ok hx
  have FX := fun p a b c d v => stField0 p a b c d v
  simp only [stc] at LC
  generalize (putK S x).2 = ex at *
  generalize (putK S x).1 = S' at *
  generalize RU.pushS sr (x : Int) = sr' at *
  generalize (x : Int) = X at *
  go_enter Try.func12, Try.ntmps12
  go_wp2_with fail
  go_at_call 29
  with_reducible refine LC.mono ?_
  rintro e w1 ⟨rfl, hb1⟩
  have H1 : Hid (KnAt w1 b S r pr mr sr) := HK.out.next hb1
  have B1 : Hid (Below w.heap.size w w1) := hb1
  have PW := PX.out w1 H1.out.rg
  clear HK hb1 LC
  go_wp2_with fail
  go_at_call 30
  with_reducible refine PW.mono ?_
  rintro e w2 ⟨rfl, hs⟩
  obtain ⟨pr', mr', k1, g1⟩ := ST.out w1 w2 H1.out hs
  have KK : Hid (Kn w2 b S' (fk b r pr') ∧ Gr (fk b r pr) w w2 (fk b r pr')) := ⟨⟨ok'.out, r, pr', mr', sr', k1, rfl⟩, g1.after B1.out⟩
  clear hs k1 g1 PW
  go_wp2
  go_ret
  exact ⟨_, rfl, KK.out.1, KK.out.2⟩
theorem lane_len (h : Kn w b S F) : Calls Try.prog 21 #[.pointer (some ⟨b, 0, none⟩)] w fun e w' => e = .returned (.int .i64 (S.ws.length : Int)) ∧ Below w.heap.size w w' := by
  obtain ⟨ok, r, pr, mr, sr, hk, rfl⟩ := h
  have LC := look_any hk
  have RC : Hid (∀ v : World, RU.RingAt v r pr mr sr → Calls Try.prog 38 #[.pointer (some ⟨r, 0, none⟩)] v fun e w' => e = .returned (.int .i64 (S.ws.length : Int)) ∧ ∃ n, w' = v.drewN n) := show _ from fun v hv => by
    have := RU.ring_len hv
    rwa [hk.xs, show (wz S.ws).length = S.ws.length by simp [wz]] at this
  have HK : Hid (KnAt w b S r pr mr sr) := hk
  clear hk ok
  have FX := fun p a b c d v => stField0 p a b c d v
  simp only [stc] at LC
  generalize (S.ws.length : Int) = X at *
  go_enter Try.func21, Try.ntmps21
  go_wp2_with fail
  go_at_call 29
  with_reducible refine LC.mono ?_
  rintro e w1 ⟨rfl, hb1⟩
  have PW := RC.out w1 (HK.out.next hb1).rg
  have B1 : Hid (Below w.heap.size w w1) := hb1
  clear HK hb1 LC
  go_wp2_with fail
  go_at_call 38
  with_reducible refine PW.mono ?_
  rintro e w2 ⟨rfl, m, rfl⟩
  go_wp2
  go_ret
  exact ⟨rfl, dn B1.out m⟩
theorem lane_room (h : Kn w b S F) : Calls Try.prog 24 #[.pointer (some ⟨b, 0, none⟩)] w fun e w' => e = .returned (.int .i64 ((S.r : Int) - (S.ws.length : Int))) ∧ Below w.heap.size w w' := by
  obtain ⟨ok, r, pr, mr, sr, hk, rfl⟩ := h
  have LC := look_any hk
  have RC : Hid (∀ v : World, RU.RingAt v r pr mr sr → Calls Try.prog 44 #[.pointer (some ⟨r, 0, none⟩)] v fun e w' => e = .returned (.int .i64 ((S.r : Int) - (S.ws.length : Int))) ∧ ∃ n, w' = v.drewN n) := show _ from fun v hv => by
    have := RU.ring_room hv
    have hfree : sr.free = (S.r : Int) - (S.ws.length : Int) := by
      have r1 := ok.r1
      have r64 := ok.r64
      rw [RU.RingSt.free, hk.room, hk.laid, hk.xs, show (wz S.ws).length = S.ws.length by simp [wz]]
      simp [RU.one]
      omega
    rwa [hfree] at this
  have HK : Hid (KnAt w b S r pr mr sr) := hk
  clear hk ok
  have FX := fun p a b c d v => stField0 p a b c d v
  simp only [stc] at LC
  generalize (S.r : Int) - (S.ws.length : Int) = X at *
  go_enter Try.func24, Try.ntmps24
  go_wp2_with fail
  go_at_call 29
  with_reducible refine LC.mono ?_
  rintro e w1 ⟨rfl, hb1⟩
  have PW := RC.out w1 (HK.out.next hb1).rg
  have B1 : Hid (Below w.heap.size w w1) := hb1
  clear HK hb1 LC
  go_wp2_with fail
  go_at_call 44
  with_reducible refine PW.mono ?_
  rintro e w2 ⟨rfl, m, rfl⟩
  go_wp2
  go_ret
  exact ⟨rfl, dn B1.out m⟩
theorem lane_phase (h : Kn w b S F) : Calls Try.prog 15 #[.pointer (some ⟨b, 0, none⟩)] w fun e w' => e = .returned (.int .i64 S.ph) ∧ Below w.heap.size w w' := by
  obtain ⟨ok, r, pr, mr, sr, hk, rfl⟩ := h
  have LC := look_any hk
  have FX := fun p a b c d v => stField1 p a b c d v
  have FY := fun a b c v => paField0 a b c v
  simp only [stc] at LC
  clear hk ok
  go_enter Try.func15, Try.ntmps15
  go_wp2_with (go_at_call 29; with_reducible refine LC.mono ?_; rintro e w1 ⟨rfl, hb1⟩)
  go_ret
  exact ⟨rfl, hb1⟩
theorem lane_port (h : Kn w b S F) : Calls Try.prog 16 #[.pointer (some ⟨b, 0, none⟩)] w fun e w' => e = .returned (.int .i64 S.port) ∧ Below w.heap.size w w' := by
  obtain ⟨ok, r, pr, mr, sr, hk, rfl⟩ := h
  have LC := look_any hk
  have FX := fun p a b c d v => stField1 p a b c d v
  have FY := fun a b c v => paField1 a b c v
  simp only [stc] at LC
  clear hk ok
  go_enter Try.func16, Try.ntmps16
  go_wp2_with (go_at_call 29; with_reducible refine LC.mono ?_; rintro e w1 ⟨rfl, hb1⟩)
  go_ret
  exact ⟨rfl, hb1⟩
theorem lane_given (h : Kn w b S F) : Calls Try.prog 25 #[.pointer (some ⟨b, 0, none⟩)] w fun e w' => e = .returned (.int .i64 S.lane) ∧ Below w.heap.size w w' := by
  obtain ⟨ok, r, pr, mr, sr, hk, rfl⟩ := h
  have LC := look_any hk
  have FX := fun p a b c d v => stField1 p a b c d v
  have FY := fun a b c v => paField2 a b c v
  simp only [stc] at LC
  clear hk ok
  go_enter Try.func25, Try.ntmps25
  go_wp2_with (go_at_call 29; with_reducible refine LC.mono ?_; rintro e w1 ⟨rfl, hb1⟩)
  go_ret
  exact ⟨rfl, hb1⟩
theorem lane_copies (h : Kn w b S F) : Calls Try.prog 17 #[.pointer (some ⟨b, 0, none⟩)] w fun e w' => e = .returned (.bool S.cp) ∧ Below w.heap.size w w' := by
  obtain ⟨ok, r, pr, mr, sr, hk, rfl⟩ := h
  have LC := look_any hk
  have FX := fun p a b c d v => stField2 p a b c d v
  simp only [stc] at LC
  clear hk ok
  go_enter Try.func17, Try.ntmps17
  go_wp2_with (go_at_call 29; with_reducible refine LC.mono ?_; rintro e w1 ⟨rfl, hb1⟩)
  go_ret
  exact ⟨rfl, hb1⟩
theorem KOk.lane {S : KS} (h : KOk S) (k : Int) : KOk { S with ph := 2, lane := k } := ⟨h.r1, h.r64, h.wl, h.wi, Or.inr (Or.inr rfl)⟩
set_option maxHeartbeats 1000000 in
theorem lane_give (h : Kn w b S F) (k : Int) : Calls Try.prog 18 #[.pointer (some ⟨b, 0, none⟩), .int .i64 k] w fun e w' => ∃ F', e = .returned (.bool (giveK S k).2) ∧ Kn w' b (giveK S k).1 F' ∧ Gr F w w' F' := by
  have PH := lane_phase h
  have HK : Hid (Kn w b S F) := h
  unfold giveK
  by_cases hp : S.ph = 1
  · rw [if_pos hp]
    rw [hp] at PH
    clear h hp
    go_enter Try.func18, Try.ntmps18
    go_wp2_with fail
    go_at_call 15
    with_reducible refine PH.mono ?_
    rintro e w1 ⟨rfl, hb1⟩
    obtain ⟨ok, r, pr, mr, sr, hk, rfl⟩ := HK.out.next hb1
    have HB : Hid (Below w.heap.size w w1) := hb1
    have H1 : Hid (KOk S ∧ KnAt w1 b S r pr mr sr) := ⟨ok, hk⟩
    have c1 := hk.blk.cell 1
    have c3 := hk.blk.cell 3
    have z1 := hk.blk.free 1
    have z3 := hk.blk.free 3
    simp only [stc, List.getElem?_toArray, List.getElem?_cons_zero, List.getElem?_cons_succ] at c1 c3
    clear hb1 HK PH ok hk
    go_wp2
    go_ret
    have X : Bk ((w1.setCell ⟨b, 1, none⟩ (.int .i64 2)).setCell ⟨b, 3, none⟩ (.int .i64 k)) b (stc { S with ph := 2, lane := k } r) 71 := by
      have := (H1.out.2.blk.set 1 (.int .i64 2)).set 3 (.int .i64 k)
      simpa [stc] using this
    have O : On b w1 ((w1.setCell ⟨b, 1, none⟩ (.int .i64 2)).setCell ⟨b, 3, none⟩ (.int .i64 k)) := ((On.refl b w1).set 1 _).set 3 _
    exact ⟨_, rfl, ⟨H1.out.1.lane k, r, pr, mr, sr, H1.out.2.turn O X rfl rfl (fun h => absurd rfl h), rfl⟩, (O.gr (F := fk b r pr) (Or.inl rfl)).after HB.out⟩
  · rw [if_neg hp]
    have t1 : (S.ph != 1) = true := by simpa using hp
    clear h
    generalize S.ph = ph at *
    go_enter Try.func18, Try.ntmps18
    go_wp2_with fail
    go_at_call 15
    with_reducible refine PH.mono ?_
    rintro e w1 ⟨rfl, hb1⟩
    clear PH
    go_wp2
    go_ret
    exact ⟨F, rfl, HK.out.next hb1, Gr.of hb1⟩
end
end Go.Proofs.Ytkigeakaedkjpaa
