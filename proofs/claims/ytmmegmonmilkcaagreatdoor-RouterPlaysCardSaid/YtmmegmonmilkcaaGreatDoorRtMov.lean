/-
 The program's router: a place, which lanes go by a port, what Move asks. (Written by gen_rmov.py.)
-/
import Derived.Test.YtmmegmonmilkcaaGreatDoorRtOwn
namespace Go.Proofs.YtmmegmonmilkcaaGreatDoor
open Go.RowKit
section
variable {w : World} {b : Nat} {c : G.Cf} {S : RS} {Y : Lay}
set_option maxRecDepth 100000 in
theorem place_any (h : RtAt w b c S Y) (hn : (S.n : Int) = c.l) (h1 : 1 ≤ S.n) (h8 : S.n ≤ 8) {k : Nat} (hk : k < 5 * S.n) : Calls Tryz.prog 68 #[.pointer (some ⟨b, 0, none⟩), .int .i64 (k : Int)] w fun e w' => e = .returned (.tuple #[.int .i64 ((k / S.n : Nat) : Int), .int .i64 ((k % S.n : Nat) : Int)]) ∧ Below w.heap.size w w' := by
 obtain ⟨-, -, k2, -⟩ := h.conf
 rw [← hn] at k2
 have hbb := h.blk.lt
 have hkq := Nat.div_le_self k S.n
 have q2 := fun p : Gw w => p.cell hbb k2
 obtain ⟨q, hq⟩ : ∃ q, k / S.n = q := ⟨_, rfl⟩
 obtain ⟨r, hr⟩ : ∃ r, k % S.n = r := ⟨_, rfl⟩
 have ed : (k : Int) / (S.n : Int) = (q : Int) := by rw [← hq, Int.natCast_ediv]
 have em : (k : Int) % (S.n : Int) = (r : Int) := by rw [← hr, Int.natCast_emod]
 have ed2 : (k : Int).tdiv (S.n : Int) = (q : Int) := by rw [Int.tdiv_eq_ediv_of_nonneg (by omega)]; exact ed
 have em2 : (k : Int).tmod (S.n : Int) = (r : Int) := by rw [Int.tmod_eq_emod_of_nonneg (by omega)]; exact em
 rw [hq, hr]
 rw [hq] at hkq
 have hwq : IntKind.i64.wrap (q : Int) = (q : Int) := IntWalk.i64_in _ (by omega)
 have f3 : ¬ S.n = 0 := by omega
 clear hq hr h hn h1 h8 hk k2 hkq
 generalize S.n = n at *
 go_enter Tryz.func68, Tryz.ntmps68
 go_wp2_with fail
 refine region_gw (by kernel_rfl) (by kernel_rfl) ?_
 repeat (first | go_big_quiet_skip | quiet_step (fail))
 refine wpQuiet_nil ?_
 intro v8 hw'
 obtain ⟨⟨u8, hb8⟩, hw''⟩ := hw'
 obtain rfl : v8 = u8 := hw''
 go_wp2
 go_ret2
 exact ⟨rfl, hb8⟩
def goK1 (K : KS) (p : Int) : Bool := decide (K.ph = 2) && (decide (K.port = p) && decide (K.ws ≠ []))
theorem rgoes_any {kb : Nat} {K : KS} {F : Nat → Prop} (h : Kn w kb K F) (p : Int) : Calls Tryz.prog 69 #[.pointer (some ⟨kb, 0, none⟩), .int .i64 p] w fun e w' => e = .returned (.bool (goK1 K p)) ∧ Below w.heap.size w w' := by
 have C1 := lane_phase h
 have C2 : Hid (∀ v, Below w.heap.size w v → Calls Tryz.prog 60 #[.pointer (some ⟨kb, 0, none⟩)] v fun e w' => e = .returned (.int .i64 K.port) ∧ Below v.heap.size v w') := show _ from fun v hv => lane_port (h.next hv)
 have C3 : Hid (∀ v, Below w.heap.size w v → Calls Tryz.prog 76 #[.pointer (some ⟨kb, 0, none⟩)] v fun e w' => e = .returned (.int .i64 (K.ws.length : Int)) ∧ Below v.heap.size v w') := show _ from fun v hv => lane_len (h.next hv)
 unfold goK1
 clear h
 by_cases h1 : K.ph = 2
 ·rw [decide_eq_true h1]
  by_cases h2 : K.port = p
  ·rw [decide_eq_true h2]
   rw [h1] at C1
   rw [h2] at C2
   by_cases h3 : K.ws = []
   ·rw [decide_eq_false (by simpa using h3)]
    rw [h3] at C3
    simp only [List.length_nil, Int.natCast_zero] at C3
    clear h1 h2 h3
    go_enter Tryz.func69, Tryz.ntmps69
    go_wp2_with (first
     | (go_at_call 59; with_reducible refine C1.mono ?_; rintro e w1 ⟨rfl, b1⟩; have D2 := C2.out w1 b1; clear C1)
     | (go_at_call 60; with_reducible refine D2.mono ?_; rintro e w2 ⟨rfl, b2⟩; have b3 := b1.trans (b2.mono b1.size); have D3 := C3.out w2 b3; clear D2 b1 b2)
     | (go_at_call 76; with_reducible refine D3.mono ?_; rintro e w4 ⟨rfl, b4⟩; have b5 := b3.trans (b4.mono b3.size); clear D3 b3 b4))
    go_ret
    exact ⟨rfl, b5⟩
   ·rw [decide_eq_true (by simpa using h3)]
    have hpos : (0 : Int) < (K.ws.length : Int) := by
     have := List.length_pos_iff.2 h3
     omega
    generalize (K.ws.length : Int) = X at *
    clear h1 h2 h3
    go_enter Tryz.func69, Tryz.ntmps69
    go_wp2_with (first
     | (go_at_call 59; with_reducible refine C1.mono ?_; rintro e w1 ⟨rfl, b1⟩; have D2 := C2.out w1 b1; clear C1)
     | (go_at_call 60; with_reducible refine D2.mono ?_; rintro e w2 ⟨rfl, b2⟩; have b3 := b1.trans (b2.mono b1.size); have D3 := C3.out w2 b3; clear D2 b1 b2)
     | (go_at_call 76; with_reducible refine D3.mono ?_; rintro e w4 ⟨rfl, b4⟩; have b5 := b3.trans (b4.mono b3.size); clear D3 b3 b4))
    go_ret
    exact ⟨by simp, b5⟩
  ·rw [decide_eq_false h2]
   have h2b : (K.port == p) = false := by simpa using h2
   rw [h1] at C1
   generalize K.port = q at *
   clear h1 C3
   go_enter Tryz.func69, Tryz.ntmps69
   go_wp2_with (first
    | (go_at_call 59; with_reducible refine C1.mono ?_; rintro e w1 ⟨rfl, b1⟩; have D2 := C2.out w1 b1; clear C1)
    | (go_at_call 60; with_reducible refine D2.mono ?_; rintro e w2 ⟨rfl, b2⟩; have b3 := b1.trans (b2.mono b1.size); clear D2 b1 b2))
   go_ret
   exact ⟨rfl, b3⟩
 ·rw [decide_eq_false h1]
  have h1b : (K.ph == 2) = false := by simpa using h1
  generalize K.ph = q at *
  clear C2 C3
  go_enter Tryz.func69, Tryz.ntmps69
  go_wp2_with (go_at_call 59; with_reducible refine C1.mono ?_; rintro e w1 ⟨rfl, b1⟩; clear C1)
  go_ret
  exact ⟨rfl, b1⟩
theorem goes_as {p : Int} {m : Int → Bool} {k : Nat} : goesRt S p m k = (goK1 (S.ins.getD k zks) p && (decide (p = 0) || m (S.ins.getD k zks).lane)) := by
 unfold goesRt goK1
 simp only [Bool.and_assoc]
theorem move_ent : Ent 67 := enters_of Tryz.func67 (by kernel_rfl) rfl
set_option maxRecDepth 100000 in
set_option maxHeartbeats 2000000 in
theorem move1_any (h : RtAt w b c S Y) (ok : ROk S) (hn : (S.n : Int) = c.l) {p : Int} (hp : 0 ≤ p) {g : Nat} {lb : Array Value} {m : Int → Bool} (hm : May w g lb m) {k : Nat} (hk : k < 5 * S.n) (rb pb fb : Nat)
  (hr : Bk w rb #[.pointer (some ⟨b, 0, none⟩)] 28) (hpb : Bk w pb #[.int .i64 p] 3) (hf : Bk w fb #[.func (.func g) #[] lb] 66) :
  Calls Tryz.prog 67 #[.int .i64 (k : Int), .pointer (some ⟨rb, 0, none⟩), .pointer (some ⟨pb, 0, none⟩), .pointer (some ⟨fb, 0, none⟩)] w fun e w' => e = .returned (.bool (goesRt S p m k)) ∧ Below w.heap.size w w' := by
 rw [goes_as]
 have hin : inRt S ((k / S.n : Nat) : Int) ((k % S.n : Nat) : Int) = true := inRt_iff.2 ⟨Int.natCast_nonneg _, show ((k / S.n : Nat) : Int) < ((5 : Nat) : Int) from Int.ofNat_lt.2 (Nat.div_lt_of_lt_mul (by rw [Nat.mul_comm]; exact hk)), Int.natCast_nonneg _, Int.ofNat_lt.2 (Nat.mod_lt k ok.n1)⟩
 have hix : ixRt S ((k / S.n : Nat) : Int) ((k % S.n : Nat) : Int) = k := by
  unfold ixRt
  rw [Int.toNat_natCast, Int.toNat_natCast, Nat.mul_comm]
  exact Nat.div_add_mod k S.n
 have PC := fun q : Gw w => place_any (h.next q.le) hn ok.n1 ok.n8 hk
 have EC : ∀ q : Gw w, Calls Tryz.prog 46 #[.pointer (some ⟨b, 0, none⟩), .int .i64 ((k / S.n : Nat) : Int), .int .i64 ((k % S.n : Nat) : Int)] q.v fun e w' => e = .returned (.pointer (some ⟨Y.kb k, 0, none⟩)) ∧ Below q.v.heap.size q.v w' := fun q => by
  have := entry_any (h.next q.le) ok.n8 ((k / S.n : Nat) : Int) ((k % S.n : Nat) : Int)
  rwa [if_pos hin, hix] at this
 have KN : Hid (∀ v, Below w.heap.size w v → Kn v (Y.kb k) (S.ins.getD k zks) (Y.fk k)) := show _ from fun v hv => (h.next hv).at_.kn k hk
 have LB : Hid (goK1 (S.ins.getD k zks) p = true → ¬ p = 0 → 0 ≤ (S.ins.getD k zks).lane ∧ (S.ins.getD k zks).lane < (S.n : Int)) := show _ from fun hg h0 => by
  unfold goK1 at hg
  simp only [Bool.and_eq_true, decide_eq_true_eq] at hg
  have := ok.io k hk hg.1 (by rw [hg.2.1]; omega)
  exact ⟨this.1, this.2.1⟩
 have hn8 := ok.n8
 clear hin hix
 generalize ((k / S.n : Nat) : Int) = kq at *
 generalize ((k % S.n : Nat) : Int) = kr at *
 generalize Y.kb k = kb at *
 generalize S.ins.getD k zks = K at *
 obtain ⟨R, hR⟩ : ∃ R, (goK1 K p && (decide (p = 0) || m K.lane)) = R := ⟨_, rfl⟩
 rw [hR]
 have HR : Hid ((goK1 K p && (decide (p = 0) || m K.lane)) = R) := hR
 clear hR
 have z0 := fun q : Gw w => q.cell (a := ⟨rb, 0, none⟩) hr.lt ((hr.cell 0).trans rfl)
 have HP : Hid (Bk w pb #[.int .i64 p] 3) := hpb
 have HF : Hid (Bk w fb #[.func (.func g) #[] lb] 66) := hf
 have HM : Hid (May w g lb m) := hm
 clear h ok hn hk hr hpb hf hm
 go_enter Tryz.func67, Tryz.ntmps67
 go_wp2_with fail
 refine region_gw (by kernel_rfl) (by kernel_rfl) ?_
 repeat (first | go_big_quiet_skip | quiet_step (first | (go_at_call 68; exact quiet_below (PC _)) | (go_at_call 46; exact quiet_below (EC _))))
 refine wpQuiet_nil ?_
 intro v1 hw'
 obtain ⟨⟨u8, hbv1⟩, hw''⟩ := hw'
 obtain rfl : v1 = u8 := hw''
 have B1 : Hid (Below w.heap.size w v1) := hbv1
 have P1 : Hid (Bk v1 pb #[.int .i64 p] 3) := HP.out.next hbv1
 have F1 : Hid (Bk v1 fb #[.func (.func g) #[] lb] 66) := HF.out.next hbv1
 have M1 : Hid (May v1 g lb m) := HM.out.next hbv1
 have K1 : Hid (∀ v, Below v1.heap.size v1 v → Kn v kb K (Y.fk k)) := show _ from fun v hv => KN.out v (hbv1.trans (hv.mono hbv1.size))
 clear z0 PC EC HP HF HM KN hbv1
 have c0 := (P1.out.cell 0).trans rfl
 by_cases hp0 : p = 0
 ·subst hp0
  have HR2 : Hid (R = goK1 K 0) := show R = goK1 K 0 from by rw [← HR.out]; simp
  have GC := rgoes_any (K1.out v1 (Below.refl _ _)) 0
  clear LB M1 F1 K1 hp HR
  go_wp2_with fail
  go_at_call 69
  with_reducible refine GC.mono ?_
  rintro e v2 ⟨rfl, b2⟩
  have B2 : Hid (Below w.heap.size w v2) := B1.out.trans (b2.mono B1.out.size)
  clear GC b2 P1 c0 B1
  go_wp2
  go_ret
  exact ⟨by rw [HR2.out]; rfl, B2.out⟩
 ·have HR1 : Hid (R = (goK1 K p && m K.lane)) := show R = _ from by rw [← HR.out, decide_eq_false hp0]; rfl
  clear HR
  have hpb0 : (p == 0) = false := by simpa using hp0
  have GC := fun q : Gw v1 => rgoes_any (K1.out q.v q.le) p
  have c1 := fun q : Gw v1 => q.cell (a := ⟨pb, 0, none⟩) P1.out.lt ((P1.out.cell 0).trans rfl)
  have c2 := fun q : Gw v1 => q.cell (a := ⟨fb, 0, none⟩) F1.out.lt ((F1.out.cell 0).trans rfl)
  have LL := LB.out
  cases hG : goK1 K p with
  | false =>
   rw [hG] at GC
   have HR2 : Hid (R = false) := show R = false from by rw [HR1.out, hG]; rfl
   clear HR1 LB LL M1 F1 K1 hG
   go_wp2_with fail
   refine region_gw (by kernel_rfl) (by kernel_rfl) ?_
   repeat (first | go_big_quiet_skip | quiet_step ((go_at_call 69; exact quiet_below (GC _))))
   refine wpQuiet_nil ?_
   intro v2 hw'
   obtain ⟨⟨u8, hbv2⟩, hw''⟩ := hw'
   obtain rfl : v2 = u8 := hw''
   have B2 : Hid (Below w.heap.size w v2) := B1.out.trans (hbv2.mono B1.out.size)
   clear GC c0 c1 c2 hbv2 B1 P1
   go_wp2
   go_ret
   exact ⟨by rw [HR2.out]; rfl, B2.out⟩
  | true =>
   rw [hG] at GC LL
   obtain ⟨l1, l2⟩ := LL rfl hp0
   have VC := fun q : Gw v1 => lane_given (K1.out q.v q.le)
   have MC := fun q : Gw v1 => M1.out.2 K.lane q.v (by omega) (by omega) q.le
   have eg' : ∀ (args : Array Value) (w : World), (callFunc g args).run Tryz.prog w = .ok (.enter g args) w := M1.out.1
   have HR2 : Hid (R = m K.lane) := show R = m K.lane from by rw [HR1.out, hG]; rfl
   clear HR1
   generalize K.lane = ln at *
   clear LB LL M1 F1 K1 hG l1 l2
   cases hmm : m ln with
   | false =>
    rw [hmm] at MC HR2
    clear hmm
    go_wp2_with fail
    refine region_gw (by kernel_rfl) (by kernel_rfl) ?_
    repeat (first | go_big_quiet_skip | quiet_step (first | (go_at_call 69; exact quiet_below (GC _)) | (go_at_call 70; exact quiet_below (VC _)) | (go_at_fn g; exact quiet_below (MC _))))
    refine wpQuiet_nil ?_
    intro v2 hw'
    obtain ⟨⟨u8, hbv2⟩, hw''⟩ := hw'
    obtain rfl : v2 = u8 := hw''
    have B2 : Hid (Below w.heap.size w v2) := B1.out.trans (hbv2.mono B1.out.size)
    clear GC c0 c1 c2 hbv2 B1 P1 VC MC
    go_wp2
    go_ret
    exact ⟨by rw [HR2.out]; rfl, B2.out⟩
   | true =>
    rw [hmm] at MC HR2
    clear hmm
    go_wp2_with fail
    refine region_gw (by kernel_rfl) (by kernel_rfl) ?_
    repeat (first | go_big_quiet_skip | quiet_step (first | (go_at_call 69; exact quiet_below (GC _)) | (go_at_call 70; exact quiet_below (VC _)) | (go_at_fn g; exact quiet_below (MC _))))
    refine wpQuiet_nil ?_
    intro v2 hw'
    obtain ⟨⟨u8, hbv2⟩, hw''⟩ := hw'
    obtain rfl : v2 = u8 := hw''
    have B2 : Hid (Below w.heap.size w v2) := B1.out.trans (hbv2.mono B1.out.size)
    clear GC c0 c1 c2 hbv2 B1 P1 VC MC
    go_wp2
    go_ret
    exact ⟨by rw [HR2.out]; rfl, B2.out⟩
end
end Go.Proofs.YtmmegmonmilkcaaGreatDoor
