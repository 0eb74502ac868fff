/-
  The walk of CutWords.
-/
import Derived.Test.YtnhfoojnokiboaaInvP
namespace Go.Proofs.Ytnhfoojnokiboaa
open Go.RowKit

theorem bp_len (p : Pc) : (bp p).hs.length ≤ 12 := by unfold bp; simp only; rw [List.length_take]; omega
theorem bp_size (p : Pc) : (bp p).x.size ≤ 80 := by
  unfold bp bx
  simp only
  split
  · assumption
  · rw [ByteArray.size_extract]; omega
theorem wR_len {P : Pc} (h : P.hs.length ≤ 12) : P.wordsR.1.length ≤ 1000 := by
  unfold Pc.wordsR
  split
  · simp
  · split
    · show P.ws.length ≤ _
      rw [ws_len]
      unfold nb
      omega
    · simp
/-- What holds, whichever have come up. -/
def W3 (w1 : World) (vp vq : Value) (P Q : Pc) (v : World) (b0 b1 b2 b3 b4 b5 : Bool) (s16 s17 s18 s19 s5 s6 : Value) : Prop :=
  Below w1.heap.size w1 v ∧ (b0 = true → s16 = vp) ∧ (b1 = true → PcV v P s17) ∧ (b2 = true → s18 = vq) ∧ (b3 = true → PcV v Q s19) ∧ (b4 = true → PtZ w1.heap.size v s5) ∧ (b5 = true → PtZ w1.heap.size v s6) ∧ (b4 = true → b5 = true → s5 ≠ s6)
theorem W3.next {w1 : World} {vp vq : Value} {P Q : Pc} {v v' : World} {b0 b1 b2 b3 b4 b5 : Bool} {s16 s17 s18 s19 s5 s6 : Value} (h : W3 w1 vp vq P Q v b0 b1 b2 b3 b4 b5 s16 s17 s18 s19 s5 s6) (hb : Below v.heap.size v v') : W3 w1 vp vq P Q v' b0 b1 b2 b3 b4 b5 s16 s17 s18 s19 s5 s6 := by
  obtain ⟨h, h0, h1, h2, h3, h4, h5, hd⟩ := h
  exact ⟨h.trans (hb.mono h.size), h0, fun e => (h1 e).next hb, h2, fun e => (h3 e).next hb, fun e => (h4 e).next hb, fun e => (h5 e).next hb, hd⟩
theorem W3.get0 {w1 : World} {vp vq : Value} {P Q : Pc} {v : World} {b0 b1 b2 b3 b4 b5 : Bool} {s16 s17 s18 s19 s5 s6 : Value} (h : W3 w1 vp vq P Q v b0 b1 b2 b3 b4 b5 s16 s17 s18 s19 s5 s6) : b0 = true → s16 = vp := by
  obtain ⟨h, h0, h1, h2, h3, h4, h5, hd⟩ := h
  exact h0
theorem W3.get1 {w1 : World} {vp vq : Value} {P Q : Pc} {v : World} {b0 b1 b2 b3 b4 b5 : Bool} {s16 s17 s18 s19 s5 s6 : Value} (h : W3 w1 vp vq P Q v b0 b1 b2 b3 b4 b5 s16 s17 s18 s19 s5 s6) : b1 = true → PcV v P s17 := by
  obtain ⟨h, h0, h1, h2, h3, h4, h5, hd⟩ := h
  exact h1
theorem W3.get2 {w1 : World} {vp vq : Value} {P Q : Pc} {v : World} {b0 b1 b2 b3 b4 b5 : Bool} {s16 s17 s18 s19 s5 s6 : Value} (h : W3 w1 vp vq P Q v b0 b1 b2 b3 b4 b5 s16 s17 s18 s19 s5 s6) : b2 = true → s18 = vq := by
  obtain ⟨h, h0, h1, h2, h3, h4, h5, hd⟩ := h
  exact h2
theorem W3.get3 {w1 : World} {vp vq : Value} {P Q : Pc} {v : World} {b0 b1 b2 b3 b4 b5 : Bool} {s16 s17 s18 s19 s5 s6 : Value} (h : W3 w1 vp vq P Q v b0 b1 b2 b3 b4 b5 s16 s17 s18 s19 s5 s6) : b3 = true → PcV v Q s19 := by
  obtain ⟨h, h0, h1, h2, h3, h4, h5, hd⟩ := h
  exact h3
theorem W3.get4 {w1 : World} {vp vq : Value} {P Q : Pc} {v : World} {b0 b1 b2 b3 b4 b5 : Bool} {s16 s17 s18 s19 s5 s6 : Value} (h : W3 w1 vp vq P Q v b0 b1 b2 b3 b4 b5 s16 s17 s18 s19 s5 s6) : b4 = true → PtZ w1.heap.size v s5 := by
  obtain ⟨h, h0, h1, h2, h3, h4, h5, hd⟩ := h
  exact h4
theorem W3.get5 {w1 : World} {vp vq : Value} {P Q : Pc} {v : World} {b0 b1 b2 b3 b4 b5 : Bool} {s16 s17 s18 s19 s5 s6 : Value} (h : W3 w1 vp vq P Q v b0 b1 b2 b3 b4 b5 s16 s17 s18 s19 s5 s6) : b5 = true → PtZ w1.heap.size v s6 := by
  obtain ⟨h, h0, h1, h2, h3, h4, h5, hd⟩ := h
  exact h5
theorem W3.dist {w1 : World} {vp vq : Value} {P Q : Pc} {v : World} {b0 b1 b2 b3 b4 b5 : Bool} {s16 s17 s18 s19 s5 s6 : Value} (h : W3 w1 vp vq P Q v b0 b1 b2 b3 b4 b5 s16 s17 s18 s19 s5 s6) : b4 = true → b5 = true → s5 ≠ s6 := by
  obtain ⟨h, h0, h1, h2, h3, h4, h5, hd⟩ := h
  exact hd
theorem W3.set0 {w1 : World} {vp vq : Value} {P Q : Pc} {v : World} {b0 b1 b2 b3 b4 b5 : Bool} {s16 s17 s18 s19 s5 s6 : Value} (h : W3 w1 vp vq P Q v b0 b1 b2 b3 b4 b5 s16 s17 s18 s19 s5 s6) {s : Value} (hs : s = vp) : W3 w1 vp vq P Q v true b1 b2 b3 b4 b5 s s17 s18 s19 s5 s6 := by
  obtain ⟨h, h0, h1, h2, h3, h4, h5, hd⟩ := h
  exact ⟨h, fun _ => hs, h1, h2, h3, h4, h5, hd⟩
theorem W3.set1 {w1 : World} {vp vq : Value} {P Q : Pc} {v : World} {b0 b1 b2 b3 b4 b5 : Bool} {s16 s17 s18 s19 s5 s6 : Value} (h : W3 w1 vp vq P Q v b0 b1 b2 b3 b4 b5 s16 s17 s18 s19 s5 s6) {s : Value} (hs : PcV v P s) : W3 w1 vp vq P Q v b0 true b2 b3 b4 b5 s16 s s18 s19 s5 s6 := by
  obtain ⟨h, h0, h1, h2, h3, h4, h5, hd⟩ := h
  exact ⟨h, h0, fun _ => hs, h2, h3, h4, h5, hd⟩
theorem W3.set2 {w1 : World} {vp vq : Value} {P Q : Pc} {v : World} {b0 b1 b2 b3 b4 b5 : Bool} {s16 s17 s18 s19 s5 s6 : Value} (h : W3 w1 vp vq P Q v b0 b1 b2 b3 b4 b5 s16 s17 s18 s19 s5 s6) {s : Value} (hs : s = vq) : W3 w1 vp vq P Q v b0 b1 true b3 b4 b5 s16 s17 s s19 s5 s6 := by
  obtain ⟨h, h0, h1, h2, h3, h4, h5, hd⟩ := h
  exact ⟨h, h0, h1, fun _ => hs, h3, h4, h5, hd⟩
theorem W3.set3 {w1 : World} {vp vq : Value} {P Q : Pc} {v : World} {b0 b1 b2 b3 b4 b5 : Bool} {s16 s17 s18 s19 s5 s6 : Value} (h : W3 w1 vp vq P Q v b0 b1 b2 b3 b4 b5 s16 s17 s18 s19 s5 s6) {s : Value} (hs : PcV v Q s) : W3 w1 vp vq P Q v b0 b1 b2 true b4 b5 s16 s17 s18 s s5 s6 := by
  obtain ⟨h, h0, h1, h2, h3, h4, h5, hd⟩ := h
  exact ⟨h, h0, h1, h2, fun _ => hs, h4, h5, hd⟩
theorem W3.set4 {w1 : World} {vp vq : Value} {P Q : Pc} {v : World} {b0 b1 b2 b3 b4 b5 : Bool} {s16 s17 s18 s19 s5 s6 : Value} (h : W3 w1 vp vq P Q v b0 b1 b2 b3 b4 b5 s16 s17 s18 s19 s5 s6) {s : Value} (hs : PtZ w1.heap.size v s) (hn : b5 = true → s ≠ s6) : W3 w1 vp vq P Q v b0 b1 b2 b3 true b5 s16 s17 s18 s19 s s6 := by
  obtain ⟨h, h0, h1, h2, h3, h4, h5, hd⟩ := h
  exact ⟨h, h0, h1, h2, h3, fun _ => hs, h5, fun _ e => hn e⟩
theorem W3.set5 {w1 : World} {vp vq : Value} {P Q : Pc} {v : World} {b0 b1 b2 b3 b4 b5 : Bool} {s16 s17 s18 s19 s5 s6 : Value} (h : W3 w1 vp vq P Q v b0 b1 b2 b3 b4 b5 s16 s17 s18 s19 s5 s6) {s : Value} (hs : PtZ w1.heap.size v s) (hn : b4 = true → s5 ≠ s) : W3 w1 vp vq P Q v b0 b1 b2 b3 b4 true s16 s17 s18 s19 s5 s := by
  obtain ⟨h, h0, h1, h2, h3, h4, h5, hd⟩ := h
  exact ⟨h, h0, h1, h2, h3, h4, fun _ => hs, fun e _ => hn e⟩

set_option maxRecDepth 100000 in
set_option maxHeartbeats 8000000 in
theorem words_law (s : Int) (c : Bool) (a : Option Addr) (cap : Nat) (x : ByteArray) (hn : List (Int × Int)) (s' : Int) (c' : Bool) (a' : Option Addr) (cap' : Nat) (x' : ByteArray) (hn' : List (Int × Int)) (w : World) (hm : hn.length ≤ maxLen) (hx : x.size ≤ maxLen) (hm' : hn'.length ≤ maxLen) (hx' : x'.size ≤ maxLen) (hr : Rd w a (pc hn)) (hr' : Rd w a' (pc hn')) :
    Calls Try.prog 3 #[pcv s c (.slice a hn.length cap) x, pcv s' c' (.slice a' hn'.length cap') x'] w fun e w' => e = .returned (.bool true) ∧ Below w.heap.size w w' := by
  have GC : ∀ w', Rd w' a (pc hn) → Calls Try.prog 9 #[pcv s c (.slice a hn.length cap) x] w' (PcR w' (bp ⟨s, c, hn, x⟩)) := fun w' h => back_any s c a cap x hn w' hm hx h
  have GD : ∀ w', Rd w' a' (pc hn') → Calls Try.prog 9 #[pcv s' c' (.slice a' hn'.length cap') x'] w' (PcR w' (bp ⟨s', c', hn', x'⟩)) := fun w' h => back_any s' c' a' cap' x' hn' w' hm' hx' h
  have p12 := bp_len ⟨s, c, hn, x⟩
  have p80 := bp_size ⟨s, c, hn, x⟩
  have q12 := bp_len ⟨s', c', hn', x'⟩
  have q80 := bp_size ⟨s', c', hn', x'⟩
  generalize bp ⟨s, c, hn, x⟩ = P at *
  generalize bp ⟨s', c', hn', x'⟩ = Q at *
  obtain ⟨n, e1⟩ : ∃ n, hn.length = n := ⟨_, rfl⟩
  obtain ⟨n', e2⟩ : ∃ n, hn'.length = n := ⟨_, rfl⟩
  rw [e1] at GC ⊢
  rw [e2] at GD ⊢
  have HR : Hid (Rd w a (pc hn)) := hr
  have HR' : Hid (Rd w a' (pc hn')) := hr'
  have HG : Hid (∀ w', Rd w' a (pc hn) → Calls Try.prog 9 #[pcv s c (.slice a n cap) x] w' (PcR w' P)) := GC
  have HG' : Hid (∀ w', Rd w' a' (pc hn') → Calls Try.prog 9 #[pcv s' c' (.slice a' n' cap') x'] w' (PcR w' Q)) := GD
  have B0 := two_blocks w #[.int .i64 s, .bool c, .slice a n cap, .string x] #[.int .i64 s', .bool c', .slice a' n' cap', .string x'] 24 24
  have LV := lives_any ((w.alloc (.cells #[.int .i64 s, .bool c, .slice a n cap, .string x] 24)).alloc (.cells #[.int .i64 s', .bool c', .slice a' n' cap', .string x'] 24))
  clear hr hr' e1 e2 hm hx hm' hx' GC GD
  simp only [pcv, pcc] at *
  go_enter Try.func3, Try.ntmps3
  go_wp2_with fail
  go_at_call 8
  with_reducible refine LV.mono ?_
  rintro e w1 ⟨rfl, hb1⟩
  have HB1 : Hid (Below w.heap.size w w1) := B0.out.2.2.1.trans (hb1.mono B0.out.2.2.1.size)
  have H1 : Hid (Bk w1 w.heap.size #[.int .i64 s, .bool c, .slice a n cap, .string x] 24) := B0.out.1.next hb1
  have H2 : Hid (Bk w1 (w.heap.size + 1) #[.int .i64 s', .bool c', .slice a' n' cap', .string x'] 24) := B0.out.2.1.next hb1
  clear LV hb1 B0
  have SS : ∀ V, Below w1.heap.size w1 V → (fun V : World => V.cell? ⟨w.heap.size, 0, none⟩ = some (.int .i64 s) ∧ V.cell? ⟨w.heap.size, 1, none⟩ = some (.bool c) ∧ V.cell? ⟨w.heap.size, 2, none⟩ = some (.slice a n cap) ∧ V.cell? ⟨w.heap.size, 3, none⟩ = some (.string x) ∧ V.cell? ⟨w.heap.size + 1, 0, none⟩ = some (.int .i64 s') ∧ V.cell? ⟨w.heap.size + 1, 1, none⟩ = some (.bool c') ∧ V.cell? ⟨w.heap.size + 1, 2, none⟩ = some (.slice a' n' cap') ∧ V.cell? ⟨w.heap.size + 1, 3, none⟩ = some (.string x')) V := fun V h => ⟨(H1.out.next h).cell 0, (H1.out.next h).cell 1, (H1.out.next h).cell 2, (H1.out.next h).cell 3, (H2.out.next h).cell 0, (H2.out.next h).cell 1, (H2.out.next h).cell 2, (H2.out.next h).cell 3⟩
  have HW : Below w1.heap.size w1 w1.drew := (Below.refl _ _).drew
  have DQ : ∀ V, Below w1.heap.size w1 V → _ := fun V h => HG'.out V (HR'.out.below (HB1.out.trans (h.mono HB1.out.size)))
  have GPc : ∀ V, Below w1.heap.size w1 V → _ := fun V h => HG.out V (HR.out.below (HB1.out.trans (h.mono HB1.out.size)))
  clear HG HG' HR HR'
  go_wp2_with fail
  refine wp_region_inv (fun a0 listed aa v => ∃ (b0 b1 b2 b3 b4 b5 : Bool) (s16 s17 s18 s19 s5 s6 : Value), listed = #[b0, b1, b2, b3, b4, b5, false, false] ∧ aa = ((((((a0.put (some 16) s16).put (some 17) s17).put (some 18) s18).put (some 19) s19).put (some 5) s5).put (some 6) s6) ∧ ((b1 = true → b0 = true) ∧ (b3 = true → b2 = true) ∧ (b3 = true → b1 = true)) ∧ W3 w1 (.agg #[.int .i64 s, .bool c, .slice a n cap, .string x]) (.agg #[.int .i64 s', .bool c', .slice a' n' cap', .string x']) P Q v b0 b1 b2 b3 b4 b5 s16 s17 s18 s19 s5 s6) #[true, true, true, true, true, true, false, false] (by kernel_rfl) ?h0 ?hstep ?hgo ?hD
  case h0 => exact ⟨false, false, false, false, false, false, undef, undef, undef, undef, undef, undef, rfl, rfl, ⟨fun e => absurd e Bool.false_ne_true, fun e => absurd e Bool.false_ne_true, fun e => absurd e Bool.false_ne_true⟩, HW, fun e => absurd e Bool.false_ne_true, fun e => absurd e Bool.false_ne_true, fun e => absurd e Bool.false_ne_true, fun e => absurd e Bool.false_ne_true, fun e => absurd e Bool.false_ne_true, fun e => absurd e Bool.false_ne_true, fun e => absurd e Bool.false_ne_true⟩
  case hgo =>
    rintro listed aa v ⟨b0, b1, b2, b3, b4, b5, s16, s17, s18, s19, s5, s6, rfl, -, ⟨k0, k1, k2⟩, -⟩ hne
    revert hne
    revert k0 k1 k2
    revert b0 b1 b2 b3 b4 b5
    decide +kernel
  case hstep =>
    rintro listed aa v ⟨b0, b1, b2, b3, b4, b5, s16, s17, s18, s19, s5, s6, rfl, rfl, ⟨k0, k1, k2⟩, HF⟩ hne i hi
    have hi2 := ready_split (fun i => (i == 0 && (!b0)) || ((i == 1 && (!b1 && b0)) || ((i == 2 && (!b2)) || ((i == 3 && (!b3 && b2 && b1)) || ((i == 4 && (!b4)) || ((i == 5 && (!b5)))))))) hi (by
      clear HF hi
      revert hne
      revert k0 k1 k2
      revert b0 b1 b2 b3 b4 b5
      decide +kernel)
    simp only [Bool.or_eq_true, Bool.and_eq_true, beq_iff_eq, Bool.not_eq_true'] at hi2
    clear hi hne
    have HH : Hid (W3 w1 (.agg #[.int .i64 s, .bool c, .slice a n cap, .string x]) (.agg #[.int .i64 s', .bool c', .slice a' n' cap', .string x']) P Q v b0 b1 b2 b3 b4 b5 s16 s17 s18 s19 s5 s6) := HF
    have HB : Hid (Below w1.heap.size w1 v) := HF.1
    have HK : Hid ((b1 = true → b0 = true) ∧ (b3 = true → b2 = true) ∧ (b3 = true → b1 = true)) := ⟨k0, k1, k2⟩
    clear HF k0 k1 k2
    simp only [Act.put, List.setIfInBounds_toArray, List.set_cons_zero, List.set_cons_succ]
    rcases hi2 with ⟨rfl, rfl⟩ | ⟨rfl, ⟨rfl, e0⟩⟩ | ⟨rfl, rfl⟩ | ⟨rfl, ⟨⟨rfl, e2⟩, e1⟩⟩ | ⟨rfl, rfl⟩ | ⟨rfl, rfl⟩
    · obtain ⟨d0, d1, d2, d3, d4, d5, d6, d7⟩ := SS v HB.out
      refine wpOp_one (i := 0) rfl (fun K hK => ?_)
      go_simp
      obtain ⟨k0, k1, k2⟩ := HK.out
      refine hK.out _ _ ⟨true, b1, b2, b3, b4, b5, _, _, _, _, _, _, rfl, rfl, ⟨fun _ => rfl, k1, k2⟩, HH.out.set0 rfl⟩
    · obtain rfl := HH.out.get0 e0
      have CC := GPc v HB.out
      refine wpOp_one (i := 1) rfl (fun K hK => ?_)
      go_simp
      with_reducible refine CC.mono ?_
      rintro e v2 ⟨g1, z1, rfl, q1, r1, hb⟩
      obtain ⟨k0, k1, k2⟩ := HK.out
      refine hK.out _ _ ⟨b0, true, b2, b3, b4, b5, _, _, _, _, _, _, rfl, rfl, ⟨fun _ => e0, k1, fun _ => rfl⟩, (HH.out.next hb).set1 ⟨g1, z1, rfl, q1, r1⟩⟩
    · obtain ⟨d0, d1, d2, d3, d4, d5, d6, d7⟩ := SS v HB.out
      refine wpOp_one (i := 2) rfl (fun K hK => ?_)
      go_simp
      obtain ⟨k0, k1, k2⟩ := HK.out
      refine hK.out _ _ ⟨b0, b1, true, b3, b4, b5, _, _, _, _, _, _, rfl, rfl, ⟨k0, fun _ => rfl, k2⟩, HH.out.set2 rfl⟩
    · obtain rfl := HH.out.get2 e2
      have CC := DQ v HB.out
      refine wpOp_one (i := 3) rfl (fun K hK => ?_)
      go_simp
      with_reducible refine CC.mono ?_
      rintro e v2 ⟨g1, z1, rfl, q1, r1, hb⟩
      obtain ⟨k0, k1, k2⟩ := HK.out
      refine hK.out _ _ ⟨b0, b1, b2, true, b4, b5, _, _, _, _, _, _, rfl, rfl, ⟨k0, fun _ => e2, fun _ => e1⟩, (HH.out.next hb).set3 ⟨g1, z1, rfl, q1, r1⟩⟩
    · have NB : Below v.heap.size v (v.alloc (.cells #[.int .i64 0, .bool false, .slice none 0 0, .string ⟨#[]⟩] 28)) := (Below.refl _ _).alloc (Nat.le_refl _) _
      have NBh : Hid (Below v.heap.size v (v.alloc (.cells #[.int .i64 0, .bool false, .slice none 0 0, .string ⟨#[]⟩] 28))) := NB
      clear NB
      refine wpOp_one (i := 4) rfl (fun K hK => ?_)
      go_simp
      obtain ⟨k0, k1, k2⟩ := HK.out
      refine hK.out _ _ ⟨b0, b1, b2, b3, true, b5, _, _, _, _, _, _, rfl, rfl, ⟨k0, k1, k2⟩, (HH.out.next NBh.out).set4 ⟨v.heap.size, rfl, HB.out.size, Bk.new _ _ _⟩ (fun e => ((HH.out.get5 e).ne_new))⟩
    · have NB : Below v.heap.size v (v.alloc (.cells #[.int .i64 0, .bool false, .slice none 0 0, .string ⟨#[]⟩] 28)) := (Below.refl _ _).alloc (Nat.le_refl _) _
      have NBh : Hid (Below v.heap.size v (v.alloc (.cells #[.int .i64 0, .bool false, .slice none 0 0, .string ⟨#[]⟩] 28))) := NB
      clear NB
      refine wpOp_one (i := 5) rfl (fun K hK => ?_)
      go_simp
      obtain ⟨k0, k1, k2⟩ := HK.out
      refine hK.out _ _ ⟨b0, b1, b2, b3, b4, true, _, _, _, _, _, _, rfl, rfl, ⟨k0, k1, k2⟩, (HH.out.next NBh.out).set5 ⟨v.heap.size, rfl, HB.out.size, Bk.new _ _ _⟩ (fun e => Ne.symm ((HH.out.get4 e).ne_new))⟩
  case hD =>
    rintro aa v ⟨b0, b1, b2, b3, b4, b5, s16, s17, s18, s19, s5, s6, eL, rfl, -, HF⟩ fuel hf
    have eL2 : b0 = true ∧ b1 = true ∧ b2 = true ∧ b3 = true ∧ b4 = true ∧ b5 = true := by
      simp at eL
      simp [eL]
    obtain ⟨rfl, rfl, rfl, rfl, rfl, rfl⟩ := eL2
    have hl2 : leftOf #[true, true, true, true, true, true, false, false] = 2 := by rfl
    obtain ⟨k, rfl⟩ : ∃ k, fuel = k + 2 := ⟨fuel - 2, by omega⟩
    clear hl2
    obtain ⟨bx, rfl, lx, kx⟩ := HF.get4 rfl
    obtain ⟨by', rfl, ly, ky⟩ := HF.get5 rfl
    obtain ⟨gx, zx, rfl, qx, rx⟩ := HF.get1 rfl
    obtain ⟨gy, zy, rfl, qy, ry⟩ := HF.get3 rfl
    have hne : ¬ by' = bx := fun e => HF.dist rfl rfl (by rw [e])
    have KX : Hid (Bk v bx #[.int .i64 0, .bool false, .slice none 0 0, .string ⟨#[]⟩] 28) := kx
    have KY : Hid (Bk v by' #[.int .i64 0, .bool false, .slice none 0 0, .string ⟨#[]⟩] 28) := ky
    have RX : Hid (Rd v gx (pc P.hs)) := rx
    have RY : Hid (Rd v gy (pc Q.hs)) := ry
    have LB : Hid (Below w1.heap.size w1 v) := HF.1
    have x0 := kx.cell 0
    have x1 := kx.cell 1
    have x2 := kx.cell 2
    have x3 := kx.cell 3
    have z0 := kx.free 0
    have z1 := kx.free 1
    have z2 := kx.free 2
    have z3 := kx.free 3
    simp only [List.getElem?_toArray, List.getElem?_cons_zero, List.getElem?_cons_succ] at x0 x1 x2 x3
    clear HF kx ky rx ry eL hf
    simp only [Act.put, List.setIfInBounds_toArray, List.set_cons_zero, List.set_cons_succ]
    refine wpAny_of_G (S := fun _ => True) (st := 7) _ _ _ _ ?_
    refine wpAnyG_one (i := 6) (by kernel_rfl) rfl (fun K hK => ?_)
    go_simp
    refine hK.out _ _ (Or.inr trivial) ?_
    clear hK K x0 x1 x2 x3 z0 z1 z2 z3
    have KX2 := four_at (x0 := .int .i64 P.s) (x1 := .bool P.c) (x2 := .slice gx P.hs.length zx) (x3 := .string P.x) KX.out
    have KY2 := four_far (x0 := .int .i64 P.s) (x1 := .bool P.c) (x2 := .slice gx P.hs.length zx) (x3 := .string P.x) KY.out hne
    have RX2 := four_rd (x0 := .int .i64 P.s) (x1 := .bool P.c) (x2 := .slice gx P.hs.length zx) (x3 := .string P.x) RX.out KX.out
    have RY2 := four_rd (x0 := .int .i64 P.s) (x1 := .bool P.c) (x2 := .slice gx P.hs.length zx) (x3 := .string P.x) RY.out KX.out
    have LB2 := below_four LB.out lx (.int .i64 P.s) (.bool P.c) (.slice gx P.hs.length zx) (.string P.x)
    clear KX KY RX RY LB
    generalize (((v.setCell ⟨bx, 0, none⟩ (.int .i64 P.s)).setCell ⟨bx, 1, none⟩ (.bool P.c)).setCell ⟨bx, 2, none⟩ (.slice gx P.hs.length zx)).setCell ⟨bx, 3, none⟩ (.string P.x) = v2 at *
    have KX : Hid (Bk v2 bx #[.int .i64 P.s, .bool P.c, .slice gx P.hs.length zx, .string P.x] 28) := KX2
    have KY : Hid (Bk v2 by' #[.int .i64 0, .bool false, .slice none 0 0, .string ⟨#[]⟩] 28) := KY2
    have RX : Hid (Rd v2 gx (pc P.hs)) := RX2
    have RY : Hid (Rd v2 gy (pc Q.hs)) := RY2
    have LB : Hid (Below w1.heap.size w1 v2) := LB2
    have x0 := KY2.cell 0
    have x1 := KY2.cell 1
    have x2 := KY2.cell 2
    have x3 := KY2.cell 3
    have z0 := KY2.free 0
    have z1 := KY2.free 1
    have z2 := KY2.free 2
    have z3 := KY2.free 3
    simp only [List.getElem?_toArray, List.getElem?_cons_zero, List.getElem?_cons_succ] at x0 x1 x2 x3
    clear KX2 KY2 RX2 RY2 LB2
    refine wpAnyG_one (i := 7) (by kernel_rfl) rfl (fun K hK => ?_)
    go_simp
    refine hK.out _ _ (Or.inr trivial) ?_
    clear hK K x0 x1 x2 x3 z0 z1 z2 z3
    have hne2 : ¬ bx = by' := fun e => hne e.symm
    have KX2 := four_far (x0 := .int .i64 Q.s) (x1 := .bool Q.c) (x2 := .slice gy Q.hs.length zy) (x3 := .string Q.x) KX.out hne2
    have KY2 := four_at (x0 := .int .i64 Q.s) (x1 := .bool Q.c) (x2 := .slice gy Q.hs.length zy) (x3 := .string Q.x) KY.out
    have RX2 := four_rd (x0 := .int .i64 Q.s) (x1 := .bool Q.c) (x2 := .slice gy Q.hs.length zy) (x3 := .string Q.x) RX.out KY.out
    have RY2 := four_rd (x0 := .int .i64 Q.s) (x1 := .bool Q.c) (x2 := .slice gy Q.hs.length zy) (x3 := .string Q.x) RY.out KY.out
    have LB2 := below_four LB.out ly (.int .i64 Q.s) (.bool Q.c) (.slice gy Q.hs.length zy) (.string Q.x)
    clear KX KY RX RY LB
    generalize (((v2.setCell ⟨by', 0, none⟩ (.int .i64 Q.s)).setCell ⟨by', 1, none⟩ (.bool Q.c)).setCell ⟨by', 2, none⟩ (.slice gy Q.hs.length zy)).setCell ⟨by', 3, none⟩ (.string Q.x) = v3 at *
    have KX : Hid (Bk v3 bx #[.int .i64 P.s, .bool P.c, .slice gx P.hs.length zx, .string P.x] 28) := KX2
    have KY : Hid (Bk v3 by' #[.int .i64 Q.s, .bool Q.c, .slice gy Q.hs.length zy, .string Q.x] 28) := KY2
    have RX : Hid (Rd v3 gx (pc P.hs)) := RX2
    have RY : Hid (Rd v3 gy (pc Q.hs)) := RY2
    have LB : Hid (Below w1.heap.size w1 v3) := LB2
    clear KX2 KY2 RX2 RY2 LB2
    refine wpAnyG_done (by kernel_rfl) ?_ _
    clear DQ GPc SS HW H1 H2
    have LW : Hid (Below w.heap.size w v3) := HB1.out.trans (LB.out.mono HB1.out.size)
    clear LB HB1 lx ly qx qy hne hne2
    have CW := fun a cap w' h => cwords_any P.s P.c a cap P.x P.hs w' (by omega) (by unfold maxLen; omega) h
    have RW := fun a cap w' h => rwords_any P.s P.c a cap P.x P.hs w' (by omega) (by unfold maxLen; omega) h
    have AS := fun a cap w' h => as_any P.s P.c a cap P.x P.hs w' (by omega) h
    have AY := fun a cap w' h => as_any Q.s Q.c a cap Q.x Q.hs w' (by omega) h
    have PK := fun a cap w' h => cpk_any P.s P.c a cap P.x P.hs w' (by omega) h
    have RK := fun a cap w' h => rpk_any P.s P.c a cap P.x P.hs w' (by omega) h
    have OK := fun a cap w' h => cok_any P.s P.c a cap P.x P.hs w' (by omega) (by unfold maxLen; omega) h
    have RO := fun a cap w' h => rok_any P.s P.c a cap P.x P.hs w' (by omega) (by unfold maxLen; omega) h
    have CS := fun a cap a2 cap2 w' h h2 => csame_any P.s Q.s P.c Q.c a a2 cap cap2 P.x Q.x P.hs Q.hs w' (by omega) (by omega) h h2
    have RS := fun a cap a2 cap2 w' h h2 => rsame_any P.s Q.s P.c Q.c a a2 cap cap2 P.x Q.x P.hs Q.hs w' (by omega) (by omega) h h2
    have wl := wR_len p12
    have PA : ∀ (w' : World) (a : Option Addr) (k : Nat), k < P.hs.length → Rd w' a (kc P.s P.x P.hs) → _ := fun w' a k hk h => h.packet hk
    unfold PcR at AS AY
    simp only [pcv, pcc] at CW RW AS AY PK RK OK RO CS RS
    obtain ⟨Ps, Pf, Ph, Px⟩ := P
    obtain ⟨Qs, Qf, Qh, Qx⟩ := Q
    simp only at *
    obtain ⟨okb, hok⟩ : ∃ b, Pc.okB ⟨Ps, Pf, Ph, Px⟩ = b := ⟨_, rfl⟩
    obtain ⟨smb, hsm⟩ : ∃ b, Pc.sameB ⟨Ps, Pf, Ph, Px⟩ ⟨Qs, Qf, Qh, Qx⟩ = b := ⟨_, rfl⟩
    obtain ⟨⟨WL, wer⟩, hwr⟩ : ∃ b, Pc.wordsR ⟨Ps, Pf, Ph, Px⟩ = b := ⟨_, rfl⟩
    rw [hok] at OK RO
    rw [hsm] at CS RS
    rw [hwr] at CW RW wl
    simp only at CW RW wl
    clear hok hsm hwr
    obtain ⟨Pn, hPn⟩ : ∃ m, Ph.length = m := ⟨_, rfl⟩
    obtain ⟨Qn, hQn⟩ : ∃ m, Qh.length = m := ⟨_, rfl⟩
    have HPn : Hid (Ph.length = Pn) := hPn
    rw [hPn] at CW RW AS PK RK OK RO CS RS KX p12 PA ⊢
    rw [hQn] at AY CS RS KY q12 ⊢
    clear hPn hQn
    obtain ⟨ln, hln⟩ : ∃ m, WL.length = m := ⟨_, rfl⟩
    rw [hln] at CW RW wl
    have HLN : Hid (WL.length = ln) := hln
    clear hln
    have d0 := KX.out.cell 0
    have d1 := KX.out.cell 1
    have d2 := KX.out.cell 2
    have d3 := KX.out.cell 3
    simp only [List.getElem?_toArray, List.getElem?_cons_zero, List.getElem?_cons_succ] at d0 d1 d2 d3
    have CW1 := CW gx zx v3 RX.out
    clear CW
    go_wp2_with fail
    go_at_call 10
    with_reducible refine CW1.mono ?_
    rintro e w4 ⟨la, lcap, rfl, hlc, rl4, hb4⟩
    have X4 : Hid (Bk w4 bx #[.int .i64 Ps, .bool Pf, .slice gx Pn zx, .string Px] 28) := KX.out.next hb4
    have Y4 : Hid (Bk w4 by' #[.int .i64 Qs, .bool Qf, .slice gy Qn zy, .string Qx] 28) := KY.out.next hb4
    have L4 : Hid (Below w.heap.size w w4) := LW.out.trans (hb4.mono LW.out.size)
    have RX4 : Hid (Rd w4 gx (pc Ph)) := RX.out.below hb4
    have RY4 : Hid (Rd w4 gy (pc Qh)) := RY.out.below hb4
    have RA4 : Hid (Rd w4 la (vw WL)) := rl4
    clear CW1 hb4 rl4 KX KY LW RX RY d0 d1 d2 d3
    have d0 := X4.out.cell 0
    have d1 := X4.out.cell 1
    have d2 := X4.out.cell 2
    have d3 := X4.out.cell 3
    simp only [List.getElem?_toArray, List.getElem?_cons_zero, List.getElem?_cons_succ] at d0 d1 d2 d3
    have AS1 := AS gx zx w4 RX4.out
    go_wp2_with fail
    go_at_call 12
    with_reducible refine AS1.mono ?_
    rintro e w5 ⟨ga, za, rfl, hza, ra5, hb5⟩
    have RW1 := RW ga za w5 ra5
    have HB5 : Hid (Below w4.heap.size w4 w5) := hb5
    clear AS1 RW hb5 ra5 d0 d1 d2 d3
    go_wp2_with fail
    go_at_call 11
    with_reducible refine RW1.mono ?_
    rintro e w6 ⟨lb, bcap, rfl, hbc, rl6, hb6⟩
    have HB6 : Below w4.heap.size w4 w6 := HB5.out.trans (hb6.mono HB5.out.size)
    have X6 : Hid (Bk w6 bx #[.int .i64 Ps, .bool Pf, .slice gx Pn zx, .string Px] 28) := X4.out.next HB6
    have Y6 : Hid (Bk w6 by' #[.int .i64 Qs, .bool Qf, .slice gy Qn zy, .string Qx] 28) := Y4.out.next HB6
    have L6 : Hid (Below w.heap.size w w6) := L4.out.trans (HB6.mono L4.out.size)
    have RX6 : Hid (Rd w6 gx (pc Ph)) := RX4.out.below HB6
    have RY6 : Hid (Rd w6 gy (pc Qh)) := RY4.out.below HB6
    have RA6 : Hid (Rd w6 la (vw WL)) := RA4.out.below HB6
    have RB6 : Hid (Rd w6 lb (vw WL)) := rl6
    clear RW1 hb6 rl6 HB6 HB5 X4 Y4 L4 RX4 RY4 RA4
    have SS : ∀ V, Below w6.heap.size w6 V → (fun V : World => V.cell? ⟨bx, 0, none⟩ = some (.int .i64 Ps) ∧ V.cell? ⟨bx, 1, none⟩ = some (.bool Pf) ∧ V.cell? ⟨bx, 2, none⟩ = some (.slice gx Pn zx) ∧ V.cell? ⟨bx, 3, none⟩ = some (.string Px)) V := fun V h => ⟨(X6.out.next h).cell 0, (X6.out.next h).cell 1, (X6.out.next h).cell 2, (X6.out.next h).cell 3⟩
    have TB : ∀ (V V' : World), Below w6.heap.size w6 V → Below V.heap.size V V' → Below w6.heap.size w6 V' := fun V V' h h' => h.trans (h'.mono h.size)
    have V6 : Below w6.heap.size w6 w6.drew := (Below.refl _ _).drew
    have T6 : (fun V : World => V.cell? ⟨bx, 0, none⟩ = some (.int .i64 Ps) ∧ V.cell? ⟨bx, 1, none⟩ = some (.bool Pf) ∧ V.cell? ⟨bx, 2, none⟩ = some (.slice gx Pn zx) ∧ V.cell? ⟨bx, 3, none⟩ = some (.string Px)) w6.drew := SS _ V6
    have PK1 := PK gx zx w6.drew (RX6.out.below V6)
    have AS1 : ∀ V, Below w6.heap.size w6 V → _ := fun V h => AS gx zx V (RX6.out.below h)
    clear PK
    go_upto_region 6 with fail
    go_region_held3 (fun V : World => V.cell? ⟨bx, 0, none⟩ = some (.int .i64 Ps) ∧ V.cell? ⟨bx, 1, none⟩ = some (.bool Pf) ∧ V.cell? ⟨bx, 2, none⟩ = some (.slice gx Pn zx) ∧ V.cell? ⟨bx, 3, none⟩ = some (.string Px))
      (first | exact U9 | exact U8 | exact U7 | exact T6 | go_keep)
      (first
        | (go_at_call 13; (with_reducible refine PK1.mono ?_); rintro e w7 ⟨ma, mcap, rfl, hmc, rm7, hb7⟩; have V7 := TB _ _ V6 hb7; have U7 := SS _ V7; have AS7 := AS1 _ V7; clear PK1)
        | (go_at_call 12; (with_reducible refine AS7.mono ?_); rintro e w8 ⟨g8, z8, rfl, q8, r8, hb8⟩; have V8 := TB _ _ V7 hb8; have U8 := SS _ V8; have RK8 := RK g8 z8 w8 r8; clear AS7)
        | (go_at_call 14; (with_reducible refine RK8.mono ?_); rintro e w9 ⟨mb, nbcap, rfl, hnc, rm9, hb9⟩; have V9 := TB _ _ V8 hb9; have U9 := SS _ V9; clear RK8))
    have X9 : Hid (Bk w9 bx #[.int .i64 Ps, .bool Pf, .slice gx Pn zx, .string Px] 28) := X6.out.next V9
    have Y9 : Hid (Bk w9 by' #[.int .i64 Qs, .bool Qf, .slice gy Qn zy, .string Qx] 28) := Y6.out.next V9
    have L9 : Hid (Below w.heap.size w w9) := L6.out.trans (V9.mono L6.out.size)
    have RX9 : Hid (Rd w9 gx (pc Ph)) := RX6.out.below V9
    have RY9 : Hid (Rd w9 gy (pc Qh)) := RY6.out.below V9
    have RA9 : Hid (Rd w9 la (vw WL)) := RA6.out.below V9
    have RB9 : Hid (Rd w9 lb (vw WL)) := RB6.out.below V9
    have M9 : Hid (Rd w9 ma (kc Ps Px Ph)) := (rm7.below hb8).below hb9
    have N9 : Hid (Rd w9 mb (kc Ps Px Ph)) := rm9
    clear X6 Y6 L6 RX6 RY6 RA6 RB6 hb7 hb8 hb9 rm7 rm9 V6 V7 V8 V9 T6 U7 U8 U9 SS TB AS1 r8 RK
    go_wp2_with fail
    go_loopw [13] (fun i wr => ∃ k u : Nat, k ≤ Pn ∧ i = .int .i64 k ∧ wr = w9.drewN u) (fun i _ => Pn - (RowKit.intOf i).toNat)
    case atStart => exact ⟨0, 0, Nat.zero_le _, rfl, rfl⟩
    case round =>
    obtain ⟨k, u, hk, rfl, rfl⟩ := hrel
    have L10 : Hid (Below w.heap.size w (w9.drewN u)) := dn L9.out u
    by_cases hlt : k < Pn
    · have e1 : (k : Int) < (Pn : Int) := by omega
      have e2 : (0 : Int) ≤ (k : Int) := by omega
      obtain ⟨g, o, rfl, _, m0, m1, m2, m3⟩ := PA (w9.drewN u) ma k hlt M9.out
      obtain ⟨g', o', rfl, _, h0, h1, h2, h3⟩ := PA (w9.drewN u) mb k hlt N9.out
      generalize (Ph.getD k (0, 0)).1 = p at *
      generalize (Ph.getD k (0, 0)).2 = q at *
      obtain ⟨v, hv⟩ : ∃ v, w9.drewN u = v := ⟨_, rfl⟩
      have HV : Hid (w9.drewN u = v) := hv
      rw [hv] at m0 m1 m2 m3 h0 h1 h2 h3 ⊢
      clear hv PA OK RO CS RS AS AY
      go_wp2_with fail
      go_quiet (fail)
      go_wp2
      go_roundw
      case rel => exact ⟨k + 1, _, by omega, by go_num, by rw [← HV.out]; exact World.drewN_drewN _ _ _⟩
      case measure => simp [RowKit.intOf]; omega
    · obtain rfl : k = Pn := by omega
      have e1 : ¬ (k : Int) < (k : Int) := by omega
      have X10 : Hid (Bk (w9.drewN u) bx #[.int .i64 Ps, .bool Pf, .slice gx k zx, .string Px] 28) := X9.out
      have Y10 : Hid (Bk (w9.drewN u) by' #[.int .i64 Qs, .bool Qf, .slice gy Qn zy, .string Qx] 28) := Y9.out
      have RX10 : Hid (Rd (w9.drewN u) gx (pc Ph)) := RX9.out
      have RY10 : Hid (Rd (w9.drewN u) gy (pc Qh)) := RY9.out
      have RA10 : Hid (Rd (w9.drewN u) la (vw WL)) := RA9.out
      have RB10 : Hid (Rd (w9.drewN u) lb (vw WL)) := RB9.out
      clear X9 Y9 RX9 RY9 RA9 RB9 M9 N9 L9 PA
      generalize w9.drewN u = v at *
      have SS : ∀ V, Below v.heap.size v V → (fun V : World => V.cell? ⟨bx, 0, none⟩ = some (.int .i64 Ps) ∧ V.cell? ⟨bx, 1, none⟩ = some (.bool Pf) ∧ V.cell? ⟨bx, 2, none⟩ = some (.slice gx k zx) ∧ V.cell? ⟨bx, 3, none⟩ = some (.string Px) ∧ V.cell? ⟨by', 0, none⟩ = some (.int .i64 Qs) ∧ V.cell? ⟨by', 1, none⟩ = some (.bool Qf) ∧ V.cell? ⟨by', 2, none⟩ = some (.slice gy Qn zy) ∧ V.cell? ⟨by', 3, none⟩ = some (.string Qx)) V := fun V h => ⟨(X10.out.next h).cell 0, (X10.out.next h).cell 1, (X10.out.next h).cell 2, (X10.out.next h).cell 3, (Y10.out.next h).cell 0, (Y10.out.next h).cell 1, (Y10.out.next h).cell 2, (Y10.out.next h).cell 3⟩
      have TB : ∀ (V V' : World), Below v.heap.size v V → Below V.heap.size V V' → Below v.heap.size v V' := fun V V' h h' => h.trans (h'.mono h.size)
      have TN : ∀ (V : World) (m : Nat), Below v.heap.size v V → Below v.heap.size v (V.drewN m) := fun V m h => dn h m
      have V0 : Below v.heap.size v v.drew := (Below.refl _ _).drew
      have T0 : (fun V : World => V.cell? ⟨bx, 0, none⟩ = some (.int .i64 Ps) ∧ V.cell? ⟨bx, 1, none⟩ = some (.bool Pf) ∧ V.cell? ⟨bx, 2, none⟩ = some (.slice gx k zx) ∧ V.cell? ⟨bx, 3, none⟩ = some (.string Px) ∧ V.cell? ⟨by', 0, none⟩ = some (.int .i64 Qs) ∧ V.cell? ⟨by', 1, none⟩ = some (.bool Qf) ∧ V.cell? ⟨by', 2, none⟩ = some (.slice gy Qn zy) ∧ V.cell? ⟨by', 3, none⟩ = some (.string Qx)) v.drew := SS _ V0
      have OK1 := OK gx zx v.drew (RX10.out.below V0)
      have AX1 : ∀ V, Below v.heap.size v V → _ := fun V h => AS gx zx V (RX10.out.below h)
      have AY1 : ∀ V, Below v.heap.size v V → _ := fun V h => AY gy zy V (RY10.out.below h)
      have CS1 : ∀ V, Below v.heap.size v V → _ := fun V h => CS gx zx gy zy V (RX10.out.below h) (RY10.out.below h)
      have SW1 : ∀ V, Below v.heap.size v V → Calls Try.prog 17 #[.slice la ln lcap, .slice lb ln bcap] V fun e w' => e = .returned (.bool true) ∧ ∃ n, w' = V.drewN n := fun V h => by
        have := samew_any WL WL la lb lcap bcap V (by rw [HLN.out]; omega) (by rw [HLN.out]; omega) (RA10.out.below h) (RB10.out.below h)
        rw [decide_eq_true (rfl : WL = WL), HLN.out] at this
        exact this
      have okk : (okb == okb) = true := by simp
      have smm : (smb == smb) = true := by simp
      have err : (wer == wer) = true := by simp
      clear OK AS AY CS
      go_upto_region 14 with fail
      go_region_held3 (fun V : World => V.cell? ⟨bx, 0, none⟩ = some (.int .i64 Ps) ∧ V.cell? ⟨bx, 1, none⟩ = some (.bool Pf) ∧ V.cell? ⟨bx, 2, none⟩ = some (.slice gx k zx) ∧ V.cell? ⟨bx, 3, none⟩ = some (.string Px) ∧ V.cell? ⟨by', 0, none⟩ = some (.int .i64 Qs) ∧ V.cell? ⟨by', 1, none⟩ = some (.bool Qf) ∧ V.cell? ⟨by', 2, none⟩ = some (.slice gy Qn zy) ∧ V.cell? ⟨by', 3, none⟩ = some (.string Qx))
        (first | exact U8 | exact U7 | exact U6 | exact U5 | exact U4 | exact U3 | exact U2 | exact U1 | exact T0 | go_keep)
        (first
          | (go_at_call 15; (with_reducible refine OK1.mono ?_); rintro e w1 ⟨rfl, hb1⟩; have V1 := TB _ _ V0 hb1; have U1 := SS _ V1; have A1 := AX1 _ V1; clear OK1)
          | (go_at_call 12; (with_reducible refine A1.mono ?_); rintro e w2 ⟨g2, z2, rfl, q2, r2, hb2⟩; have V2 := TB _ _ V1 hb2; have U2 := SS _ V2; have RO2 := RO g2 z2 w2 r2; clear A1)
          | (go_at_call 16; (with_reducible refine RO2.mono ?_); rintro e w3 ⟨rfl, hb3⟩; have V3 := TB _ _ V2 hb3; have U3 := SS _ V3; have SW3 := SW1 _ V3; clear RO2)
          | (go_at_call 17; (with_reducible refine SW3.mono ?_); rintro e w4 ⟨rfl, m4, rfl⟩; have V4 := TN _ m4 V3; have U4 := SS _ V4; have CS4 := CS1 _ V4; clear SW3)
          | (go_at_call 18; (with_reducible refine CS4.mono ?_); rintro e w5 ⟨rfl, hb5⟩; have V5 := TB _ _ V4 hb5; have U5 := SS _ V5; have A5 := AX1 _ V5; clear CS4)
          | (go_at_call 12; (with_reducible refine A5.mono ?_); rintro e w6 ⟨g6, z6, rfl, q6, r6, hb6⟩; have V6 := TB _ _ V5 hb6; have U6 := SS _ V6; have A6 := AY1 _ V6; clear A5)
          | (go_at_call 12; (with_reducible refine A6.mono ?_); rintro e w7 ⟨g7, z7, rfl, q7, r7, hb7⟩; have V7 := TB _ _ V6 hb7; have U7 := SS _ V7; have RS7 := RS g6 z6 g7 z7 w7 (r6.below hb7) r7; clear A6)
          | (go_at_call 19; (with_reducible refine RS7.mono ?_); rintro e w8 ⟨rfl, hb8⟩; have V8 := TB _ _ V7 hb8; have U8 := SS _ V8; clear RS7)
          | fail)
      go_wp2
      go_ret
      exact ⟨rfl, L10.out.trans (V8.mono L10.out.size)⟩
end Go.Proofs.Ytnhfoojnokiboaa
