/-
  The walk of InboxOdd. (Written by gen_iodd.py.)
-/
import Derived.Test.YtpmkpjnhdehnhaaILives
import Derived.Test.YtpmkpjnhdehnhaaGwC
namespace Go.Proofs.Ytpmkpjnhdehnhaa
open Go.RowKit

/-- What comes of one packet in a new inbox. -/
structure OddS (p : Pk) (R : Bool) (e f : Int) (S1 S2 : IS) : Prop where
  r : R = decide (inR p)
  e1 : e = comeE (newI 2) p
  f1 : f = comeE S1 p
  s1 : S1 = comeS (newI 2) p
  s2 : S2 = comeS S1 p
theorem OddS.no {p : Pk} {R : Bool} {e f : Int} {S1 S2 : IS} (h : OddS p R e f S1 S2) (hR : R = false) : e = 1 ∧ f = 1 ∧ S2.W.length = 0 := by
  have hn : ¬ inR p := by have := h.r; rw [hR] at this; simpa using this.symm
  have s1 : S1 = newI 2 := by rw [h.s1]; unfold comeS; rw [if_neg hn]
  have s2 : S2 = newI 2 := by rw [h.s2, s1]; unfold comeS; rw [if_neg hn]
  refine ⟨by rw [h.e1]; unfold comeE; rw [if_neg hn], by rw [h.f1]; unfold comeE; rw [if_neg hn], by rw [s2]; rfl⟩
theorem OddS.yes {p : Pk} {R : Bool} {e f : Int} {S1 S2 : IS} (h : OddS p R e f S1 S2) (hR : R = true) : e = 0 ∧ f = 13 ∧ S2.W.length = 1 ∧ (rdy S2).isSome = (p.q == 0) := by
  have hn : inR p := by have := h.r; rw [hR] at this; simpa using this.symm
  have s1 : S1 = { newI 2 with W := [p] } := by rw [h.s1]; unfold comeS; rw [if_pos hn]; rfl
  have hh : has S1.W p = true := by rw [s1]; exact has_iff.2 ⟨p, by simp, rfl, rfl⟩
  have s2 : S2 = S1 := by rw [h.s2]; unfold comeS; rw [if_pos hn, hh]; rfl
  refine ⟨by rw [h.e1]; unfold comeE; rw [if_pos hn]; rfl, by rw [h.f1]; unfold comeE; rw [if_pos hn, hh]; rfl, by rw [s2, s1]; rfl, ?_⟩
  rw [s2, s1]
  show (pick (fun _ => 0) [p]).isSome = (p.q == 0)
  unfold pick pick
  by_cases hq : p.q = 0
  · rw [if_pos hq]; simp [hq]
  · rw [if_neg hq]; simp [hq]
abbrev OneB (k : Nat) : Nat → Prop := fun g => g = k
/-- The law's inbox and its packet. -/
structure OdX (w0 v : World) (k b : Nat) (S : IS) (p : Pk) : Prop where
  x : Ix w0 v b S (OneB k)
  p : Bk v k (pkc p) 33
theorem OdX.next {w0 v v' : World} {k b : Nat} {S : IS} {p : Pk} (h : OdX w0 v k b S p) (hb : Below v.heap.size v v') : OdX w0 v' k b S p := ⟨(h.x.next hb).1, h.p.next hb⟩
theorem OdX.step {w0 v v' : World} {k b : Nat} {S S' : IS} {p : Pk} (h : OdX w0 v k b S p) (hx : Ix w0 v' b S' (OneB k)) (hk : Kp (OneB k) v v') : OdX w0 v' k b S' p := ⟨hx, h.p.kp hk rfl⟩

set_option maxRecDepth 100000 in
set_option maxHeartbeats 8000000 in
theorem odd_law (p : Pk) (w : World) : Calls Try.prog 7 #[pkv p] w fun e w' => e = .returned (.bool true) ∧ Below w.heap.size w w' := by
  have B0 : Hid (Below w.heap.size w (w.alloc (.cells (pkc p) 33))) := (Below.refl _ _).alloc (Nat.le_refl _) _
  have N0 : Hid (Bk (w.alloc (.cells (pkc p) 33)) w.heap.size (pkc p) 33) := Bk.new _ _ _
  obtain ⟨R, hR⟩ : ∃ R, R = decide (inR p) := ⟨_, rfl⟩
  obtain ⟨S1, hS1⟩ : ∃ S1, S1 = comeS (newI 2) p := ⟨_, rfl⟩
  obtain ⟨S2, hS2⟩ : ∃ S2, S2 = comeS S1 p := ⟨_, rfl⟩
  obtain ⟨E1, hE1⟩ : ∃ E1, E1 = comeE (newI 2) p := ⟨_, rfl⟩
  obtain ⟨E2, hE2⟩ : ∃ E2, E2 = comeE S1 p := ⟨_, rfl⟩
  have OD : Hid (OddS p R E1 E2 S1 S2) := ⟨hR, hE1, hE2, hS1, hS2⟩
  have CN : Hid (∀ v, Below w.heap.size w v → Bk v w.heap.size (pkc p) 33 → Calls Try.prog 11 #[.int .i64 2] v fun e v' => ∃ b, e = .returned (.pointer (some ⟨b, 0, none⟩)) ∧ OdX w v' w.heap.size b (newI 2) p) := show _ from fun v hb hp => by
    refine (ix_new (w0 := w) (O := OneB w.heap.size) hb (fun g hg => by rw [hg]; exact hp.lt) 2).mono ?_
    rintro e v' ⟨b, rfl, x, k⟩
    exact ⟨b, rfl, x, hp.kp k rfl⟩
  have C1 : Hid (∀ v b, OdX w v w.heap.size b (newI 2) p → Calls Try.prog 17 #[.pointer (some ⟨b, 0, none⟩), pkv p] v fun e v' => e = .returned (.int .i64 E1) ∧ OdX w v' w.heap.size b S1 p) := show _ from fun v b h => by
    refine (ix_come h.x p).mono ?_
    rintro e v' ⟨rfl, x, k⟩
    rw [← hE1]; rw [← hS1] at x
    exact ⟨rfl, h.step x k⟩
  have C2 : Hid (∀ v b, OdX w v w.heap.size b S1 p → Calls Try.prog 17 #[.pointer (some ⟨b, 0, none⟩), pkv p] v fun e v' => e = .returned (.int .i64 E2) ∧ OdX w v' w.heap.size b S2 p) := show _ from fun v b h => by
    refine (ix_come h.x p).mono ?_
    rintro e v' ⟨rfl, x, k⟩
    rw [← hE2]; rw [← hS2] at x
    exact ⟨rfl, h.step x k⟩
  clear hR hS1 hS2 hE1 hE2
  generalize newI 2 = S0 at *
  obtain ⟨ps, pd, pq, px⟩ := p
  simp only [pkv, pkc] at *
  have LV := lives_any
  have NP := inil_peek
  have NR := inil_recv
  have NC := inil_come ⟨ps, pd, pq, px⟩
  have NT := inil_tell
  have NL := inil_len
  have NO := inil_room
  have NW := inil_waits
  have NN := fun v => inil_next v (s := 1) (by decide)
  have NY := inil_ready
  simp only [pkv, pkc] at NP NR NC
  go_enter Try.func7, Try.ntmps7
  go_upto_region 1 with fail
  generalize w.alloc (.cells #[.int .i64 ps, .int .i64 pd, .int .i64 pq, .string px] 33) = v at *
  obtain ⟨c, hc⟩ : ∃ c, w.heap.size = c := ⟨_, rfl⟩
  have HC : Hid (w.heap.size = c) := hc
  rw [hc] at B0 N0 CN C1 C2 ⊢
  clear hc
  go_upto_region 3 with (go_at_call 10; with_reducible refine (LV _).mono ?_; rintro e v1 ⟨rfl, hb1⟩)
  have B1 : Below c w v1 := B0.out.trans (hb1.mono (by have := N0.out.lt; omega))
  have L1 := CN.out v1 B1 (N0.out.next hb1)
  clear hb1 B1 B0 N0 CN
  go_upto_region 4 with (go_at_call 11; with_reducible refine L1.mono ?_; rintro e v2 ⟨b, rfl, X2⟩)
  have L2 := C1.out v2 b X2
  have HX2 : Hid (OdX w v2 c b S0 ⟨ps, pd, pq, px⟩) := X2
  clear L1 C1 X2
  have y0 := HX2.out.p.cell 0
  have y1 := HX2.out.p.cell 1
  have y2 := HX2.out.p.cell 2
  have y3 := HX2.out.p.cell 3
  simp only [List.getElem?_toArray, List.getElem?_cons_zero, List.getElem?_cons_succ] at y0 y1 y2 y3
  go_upto_region 5 with (go_at_call 17; with_reducible refine L2.mono ?_; rintro e v3 ⟨rfl, X3⟩)
  have HX3 : Hid (OdX w v3 c b S1 ⟨ps, pd, pq, px⟩) := X3
  have L3 := C2.out v3 b X3
  clear L2 X3 C2 y0 y1 y2 y3 HX2
  have y0 := HX3.out.p.cell 0
  have y1 := HX3.out.p.cell 1
  have y2 := HX3.out.p.cell 2
  have y3 := HX3.out.p.cell 3
  simp only [List.getElem?_toArray, List.getElem?_cons_zero, List.getElem?_cons_succ] at y0 y1 y2 y3
  go_cut [5] from 18 to 35 (fun s wc => s = .bool R ∧ wc = v3)
  case first =>
    clear L3 NP NR NC NT NL NO NW NN NY LV HX3
    have hRR : R = decide (0 ≤ ps ∧ ps < 4096 ∧ 0 ≤ pq ∧ pq < 65536) := OD.out.r
    by_cases h0 : 0 ≤ ps
    · by_cases h1 : ps ≤ 4095
      · by_cases h2 : 0 ≤ pq
        · by_cases h3 : pq ≤ 65535
          · obtain rfl : R = true := by rw [hRR]; simp; omega
            clear hRR OD
            go_wp2_with fail
            go_meet
            exact ⟨rfl, rfl⟩
          · obtain rfl : R = false := by rw [hRR]; simp; omega
            clear hRR OD
            go_wp2_with fail
            go_meet
            exact ⟨rfl, rfl⟩
        · obtain rfl : R = false := by rw [hRR]; simp; omega
          clear hRR OD
          go_wp2_with fail
          go_meet
          exact ⟨rfl, rfl⟩
      · obtain rfl : R = false := by rw [hRR]; simp; omega
        clear hRR OD
        go_wp2_with fail
        go_meet
        exact ⟨rfl, rfl⟩
    · obtain rfl : R = false := by rw [hRR]; simp; omega
      clear hRR OD
      go_wp2_with fail
      go_meet
      exact ⟨rfl, rfl⟩
  case rest =>
  obtain ⟨rfl, rfl⟩ := hcut
  go_upto_region 7 with (go_at_call 17; with_reducible refine L3.mono ?_; rintro e v4 ⟨rfl, X4⟩)
  have HX4 : Hid (OdX w v4 c b S2 ⟨ps, pd, pq, px⟩) := X4
  clear L3 X4 y0 y1 y2 y3 HX3
  go_upto_region 9 with (go_at_call 21; with_reducible refine (NR _).mono ?_; rintro e v5 ⟨rfl, hb5⟩)
  have HX5 : Hid (OdX w (v5.alloc (.cells #[.int .i64 0, .int .i64 0, .int .i64 0, .string ⟨#[]⟩] 33)) c b S2 ⟨ps, pd, pq, px⟩) := HX4.out.next (hb5.alloc hb5.size _)
  clear hb5 HX4
  generalize v5.alloc (.cells #[.int .i64 0, .int .i64 0, .int .i64 0, .string ⟨#[]⟩] 33) = v6 at *
  go_upto_region 10 with (go_at_call 22; with_reducible refine (NP _).mono ?_; rintro e v7 ⟨rfl, hb7⟩)
  have HX7 : Hid (OdX w (v7.alloc (.cells #[.int .i64 0, .int .i64 0, .int .i64 0, .string ⟨#[]⟩] 33)) c b S2 ⟨ps, pd, pq, px⟩) := HX5.out.next (hb7.alloc hb7.size _)
  clear hb7 HX5
  generalize v7.alloc (.cells #[.int .i64 0, .int .i64 0, .int .i64 0, .string ⟨#[]⟩] 33) = v8 at *
  have y0 := HX7.out.p.cell 0
  have y1 := HX7.out.p.cell 1
  have y2 := HX7.out.p.cell 2
  have y3 := HX7.out.p.cell 3
  simp only [List.getElem?_toArray, List.getElem?_cons_zero, List.getElem?_cons_succ] at y0 y1 y2 y3
  have BX : Below v8.heap.size v8 v8 := Below.refl _ _
  go_upto_region 12 with (first
    | (go_at_call 17; with_reducible refine (NC _).mono ?_; rintro e v9 ⟨rfl, hb9⟩)
    | (go_at_call 19; with_reducible refine (NT _).mono ?_; rintro e v10 ⟨rfl, hb10⟩)
    | (go_at_call 23; with_reducible refine (NL _).mono ?_; rintro e v11 ⟨rfl, hb11⟩)
    | (go_at_call 24; with_reducible refine (NO _).mono ?_; rintro e v12 ⟨rfl, hb12⟩)
    | (go_at_call 25; with_reducible refine (NW _).mono ?_; rintro e v13 ⟨rfl, hb13⟩)
    | (go_at_call 26; with_reducible refine (NN _).mono ?_; rintro e v14 ⟨rfl, hb14⟩)
    | (go_at_call 27; with_reducible refine (NY _).mono ?_; rintro e v15 ⟨rfl, hb15⟩))
  have HX15 : Hid (OdX w v15 c b S2 ⟨ps, pd, pq, px⟩) := ((((((HX7.out.next hb9).next hb10).next hb11).next hb12).next hb13).next hb14).next hb15
  clear hb9 hb10 hb11 hb12 hb13 hb14 hb15 BX HX7 y0 y1 y2 y3 NP NR NC NT NL NO NW NN NY LV
  cases hR : R with
  | false =>
    obtain ⟨g1, g2, g3⟩ := OD.out.no hR
    subst g1 g2 hR
    have WC := ix_waits HX15.out.x
    rw [g3] at WC
    clear g3 OD
    go_wp2_with (go_at_call 25; with_reducible refine WC.mono ?_; rintro e v16 ⟨rfl, x16, _⟩)
    go_ret
    exact ⟨rfl, x16.bl⟩
  | true =>
    obtain ⟨g1, g2, g3, g4⟩ := OD.out.yes hR
    subst g1 g2 hR
    have y2 : ∀ q : Gw v15, q.v.cell? ⟨c, 2, none⟩ = some (.int .i64 pq) := fun q => Gw.cell q HX15.out.p.lt ((HX15.out.p.cell 2).trans rfl)
    have WC : ∀ q : Gw v15, Calls Try.prog 25 #[.pointer (some ⟨b, 0, none⟩)] q.v fun e w' => e = .returned (.int .i64 1) ∧ Below q.v.heap.size q.v w' := fun q => by
      obtain ⟨F, hI, _⟩ := (HX15.out.x.next q.le).1.ex
      have := inbox_waits hI
      rw [g3] at this
      exact this
    have YC : ∀ q : Gw v15, Calls Try.prog 27 #[.pointer (some ⟨b, 0, none⟩)] q.v fun e w' => e = .returned (.bool (pq == 0)) ∧ Below q.v.heap.size q.v w' := fun q => by
      obtain ⟨F, hI, _⟩ := (HX15.out.x.next q.le).1.ex
      have := inbox_ready hI
      rw [g4] at this
      exact this
    have HB : Hid (Below w.heap.size w v15) := HX15.out.x.bl
    clear HX15 g3 g4 OD
    cases hq : (pq == 0)
    all_goals
      rw [hq] at YC
      go_wp2_with fail
      refine region_gw (by kernel_rfl) (by kernel_rfl) ?_
      repeat (first
        | go_big_quiet_skip
        | quiet_step (first
          | (go_at_call 25; exact quiet_below (WC _))
          | (go_at_call 27; exact quiet_below (YC _))))
      refine wpQuiet_nil ?_
      intro u hw'
      obtain ⟨⟨u', hb⟩, e⟩ := hw'
      obtain rfl : u = u' := e
      go_wp2
      go_ret
      exact ⟨rfl, HB.out.trans (hb.mono HB.out.size)⟩
end Go.Proofs.Ytpmkpjnhdehnhaa
