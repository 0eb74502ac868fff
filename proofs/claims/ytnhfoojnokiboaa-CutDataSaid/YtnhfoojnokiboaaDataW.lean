/-
  The walk of CutData.
-/
import Derived.Test.YtnhfoojnokiboaaInvP
namespace Go.Proofs.Ytnhfoojnokiboaa
open Go.RowKit

/-- The words behind the Heads. -/
def tw (x : ByteArray) : List Nat := ((List.range (nb x.size)).map (bdF x) ++ [tlF x]).map Fl.word
theorem tw_len (x : ByteArray) : (tw x).length = nb x.size + 1 := by unfold tw; simp
theorem tw_drop (P : Pc) : P.ws.drop P.hs.length = tw P.x := by
  unfold Pc.ws Pc.fls tw
  rw [List.map_append, List.drop_left' (by rw [List.length_map, List.length_map, List.length_range])]
theorem tw_at {x : ByteArray} {j : Nat} (h : j < nb x.size) : (tw x).getD j 0 = (bdF x j).word := by
  unfold tw
  refine map_getD Fl.word ?_
  rw [List.getElem?_append_left (by rw [List.length_map, List.length_range]; exact h), List.getElem?_map, List.getElem?_range h]
  rfl
/-- A piece's word tells the piece. -/
theorem bd_same {x y : ByteArray} {j : Nat} (h : j < nb x.size) (h' : j < nb y.size) : (bdF x j).word = (bdF y j).word ↔ x.extract (6 * j) (6 * j + 6) = y.extract (6 * j) (6 * j + 6) := by
  constructor
  · intro e
    have r1 := readR_word (bd_right h)
    have r2 := readR_word (bd_right h')
    rw [e, r2] at r1
    have := congrArg Fl.x (Prod.mk.inj r1).1
    exact this.symm
  · intro e
    have : bdF x j = bdF y j := by unfold bdF; rw [e]
    rw [this]
theorem Rd.drop {w : World} {g o : Nat} {l : List Value} (h : Rd w (some ⟨g, o, none⟩) l) (k : Nat) : Rd w (some ⟨g, o + k, none⟩) (l.drop k) := by
  intro j v hj
  rw [List.getElem?_drop] at hj
  obtain ⟨g', o', e, hg, hc⟩ := h _ v hj
  simp only [Option.some.injEq, Addr.mk.injEq] at e
  obtain ⟨rfl, rfl, _⟩ := e
  exact ⟨g, o + k, rfl, hg, by rw [Nat.add_assoc]; exact hc⟩

/-- What holds, whichever have come up. -/
def D7 (w1 : World) (vp vq : Value) (P Q : Pc) (v : World) (b0 b1 b2 b3 b4 b5 b6 b7 : Bool) (s19 s20 s21 s22 s23 s24 s5 s6 : Value) : Prop :=
  Below w1.heap.size w1 v ∧ (b0 = true → s19 = vp) ∧ (b1 = true → PcV v P s20) ∧ (b2 = true → PcV v P s21) ∧ (b3 = true → s22 = vq) ∧ (b4 = true → PcV v Q s23) ∧ (b5 = true → PcV v Q s24) ∧ (b6 = true → PtZ w1.heap.size v s5) ∧ (b7 = true → PtZ w1.heap.size v s6) ∧ (b6 = true → b7 = true → s5 ≠ s6)
theorem D7.next {w1 : World} {vp vq : Value} {P Q : Pc} {v v' : World} {b0 b1 b2 b3 b4 b5 b6 b7 : Bool} {s19 s20 s21 s22 s23 s24 s5 s6 : Value} (h : D7 w1 vp vq P Q v b0 b1 b2 b3 b4 b5 b6 b7 s19 s20 s21 s22 s23 s24 s5 s6) (hb : Below v.heap.size v v') : D7 w1 vp vq P Q v' b0 b1 b2 b3 b4 b5 b6 b7 s19 s20 s21 s22 s23 s24 s5 s6 := by
  obtain ⟨h, h0, h1, h2, h3, h4, h5, h6, h7, hd⟩ := h
  exact ⟨h.trans (hb.mono h.size), h0, fun e => (h1 e).next hb, fun e => (h2 e).next hb, h3, fun e => (h4 e).next hb, fun e => (h5 e).next hb, fun e => (h6 e).next hb, fun e => (h7 e).next hb, hd⟩
theorem D7.get0 {w1 : World} {vp vq : Value} {P Q : Pc} {v : World} {b0 b1 b2 b3 b4 b5 b6 b7 : Bool} {s19 s20 s21 s22 s23 s24 s5 s6 : Value} (h : D7 w1 vp vq P Q v b0 b1 b2 b3 b4 b5 b6 b7 s19 s20 s21 s22 s23 s24 s5 s6) : b0 = true → s19 = vp := by
  obtain ⟨h, h0, h1, h2, h3, h4, h5, h6, h7, hd⟩ := h
  exact h0
theorem D7.get1 {w1 : World} {vp vq : Value} {P Q : Pc} {v : World} {b0 b1 b2 b3 b4 b5 b6 b7 : Bool} {s19 s20 s21 s22 s23 s24 s5 s6 : Value} (h : D7 w1 vp vq P Q v b0 b1 b2 b3 b4 b5 b6 b7 s19 s20 s21 s22 s23 s24 s5 s6) : b1 = true → PcV v P s20 := by
  obtain ⟨h, h0, h1, h2, h3, h4, h5, h6, h7, hd⟩ := h
  exact h1
theorem D7.get2 {w1 : World} {vp vq : Value} {P Q : Pc} {v : World} {b0 b1 b2 b3 b4 b5 b6 b7 : Bool} {s19 s20 s21 s22 s23 s24 s5 s6 : Value} (h : D7 w1 vp vq P Q v b0 b1 b2 b3 b4 b5 b6 b7 s19 s20 s21 s22 s23 s24 s5 s6) : b2 = true → PcV v P s21 := by
  obtain ⟨h, h0, h1, h2, h3, h4, h5, h6, h7, hd⟩ := h
  exact h2
theorem D7.get3 {w1 : World} {vp vq : Value} {P Q : Pc} {v : World} {b0 b1 b2 b3 b4 b5 b6 b7 : Bool} {s19 s20 s21 s22 s23 s24 s5 s6 : Value} (h : D7 w1 vp vq P Q v b0 b1 b2 b3 b4 b5 b6 b7 s19 s20 s21 s22 s23 s24 s5 s6) : b3 = true → s22 = vq := by
  obtain ⟨h, h0, h1, h2, h3, h4, h5, h6, h7, hd⟩ := h
  exact h3
theorem D7.get4 {w1 : World} {vp vq : Value} {P Q : Pc} {v : World} {b0 b1 b2 b3 b4 b5 b6 b7 : Bool} {s19 s20 s21 s22 s23 s24 s5 s6 : Value} (h : D7 w1 vp vq P Q v b0 b1 b2 b3 b4 b5 b6 b7 s19 s20 s21 s22 s23 s24 s5 s6) : b4 = true → PcV v Q s23 := by
  obtain ⟨h, h0, h1, h2, h3, h4, h5, h6, h7, hd⟩ := h
  exact h4
theorem D7.get5 {w1 : World} {vp vq : Value} {P Q : Pc} {v : World} {b0 b1 b2 b3 b4 b5 b6 b7 : Bool} {s19 s20 s21 s22 s23 s24 s5 s6 : Value} (h : D7 w1 vp vq P Q v b0 b1 b2 b3 b4 b5 b6 b7 s19 s20 s21 s22 s23 s24 s5 s6) : b5 = true → PcV v Q s24 := by
  obtain ⟨h, h0, h1, h2, h3, h4, h5, h6, h7, hd⟩ := h
  exact h5
theorem D7.get6 {w1 : World} {vp vq : Value} {P Q : Pc} {v : World} {b0 b1 b2 b3 b4 b5 b6 b7 : Bool} {s19 s20 s21 s22 s23 s24 s5 s6 : Value} (h : D7 w1 vp vq P Q v b0 b1 b2 b3 b4 b5 b6 b7 s19 s20 s21 s22 s23 s24 s5 s6) : b6 = true → PtZ w1.heap.size v s5 := by
  obtain ⟨h, h0, h1, h2, h3, h4, h5, h6, h7, hd⟩ := h
  exact h6
theorem D7.get7 {w1 : World} {vp vq : Value} {P Q : Pc} {v : World} {b0 b1 b2 b3 b4 b5 b6 b7 : Bool} {s19 s20 s21 s22 s23 s24 s5 s6 : Value} (h : D7 w1 vp vq P Q v b0 b1 b2 b3 b4 b5 b6 b7 s19 s20 s21 s22 s23 s24 s5 s6) : b7 = true → PtZ w1.heap.size v s6 := by
  obtain ⟨h, h0, h1, h2, h3, h4, h5, h6, h7, hd⟩ := h
  exact h7
theorem D7.dist {w1 : World} {vp vq : Value} {P Q : Pc} {v : World} {b0 b1 b2 b3 b4 b5 b6 b7 : Bool} {s19 s20 s21 s22 s23 s24 s5 s6 : Value} (h : D7 w1 vp vq P Q v b0 b1 b2 b3 b4 b5 b6 b7 s19 s20 s21 s22 s23 s24 s5 s6) : b6 = true → b7 = true → s5 ≠ s6 := by
  obtain ⟨h, h0, h1, h2, h3, h4, h5, h6, h7, hd⟩ := h
  exact hd
theorem D7.set0 {w1 : World} {vp vq : Value} {P Q : Pc} {v : World} {b0 b1 b2 b3 b4 b5 b6 b7 : Bool} {s19 s20 s21 s22 s23 s24 s5 s6 : Value} (h : D7 w1 vp vq P Q v b0 b1 b2 b3 b4 b5 b6 b7 s19 s20 s21 s22 s23 s24 s5 s6) {s : Value} (hs : s = vp) : D7 w1 vp vq P Q v true b1 b2 b3 b4 b5 b6 b7 s s20 s21 s22 s23 s24 s5 s6 := by
  obtain ⟨h, h0, h1, h2, h3, h4, h5, h6, h7, hd⟩ := h
  exact ⟨h, fun _ => hs, h1, h2, h3, h4, h5, h6, h7, hd⟩
theorem D7.set1 {w1 : World} {vp vq : Value} {P Q : Pc} {v : World} {b0 b1 b2 b3 b4 b5 b6 b7 : Bool} {s19 s20 s21 s22 s23 s24 s5 s6 : Value} (h : D7 w1 vp vq P Q v b0 b1 b2 b3 b4 b5 b6 b7 s19 s20 s21 s22 s23 s24 s5 s6) {s : Value} (hs : PcV v P s) : D7 w1 vp vq P Q v b0 true b2 b3 b4 b5 b6 b7 s19 s s21 s22 s23 s24 s5 s6 := by
  obtain ⟨h, h0, h1, h2, h3, h4, h5, h6, h7, hd⟩ := h
  exact ⟨h, h0, fun _ => hs, h2, h3, h4, h5, h6, h7, hd⟩
theorem D7.set2 {w1 : World} {vp vq : Value} {P Q : Pc} {v : World} {b0 b1 b2 b3 b4 b5 b6 b7 : Bool} {s19 s20 s21 s22 s23 s24 s5 s6 : Value} (h : D7 w1 vp vq P Q v b0 b1 b2 b3 b4 b5 b6 b7 s19 s20 s21 s22 s23 s24 s5 s6) {s : Value} (hs : PcV v P s) : D7 w1 vp vq P Q v b0 b1 true b3 b4 b5 b6 b7 s19 s20 s s22 s23 s24 s5 s6 := by
  obtain ⟨h, h0, h1, h2, h3, h4, h5, h6, h7, hd⟩ := h
  exact ⟨h, h0, h1, fun _ => hs, h3, h4, h5, h6, h7, hd⟩
theorem D7.set3 {w1 : World} {vp vq : Value} {P Q : Pc} {v : World} {b0 b1 b2 b3 b4 b5 b6 b7 : Bool} {s19 s20 s21 s22 s23 s24 s5 s6 : Value} (h : D7 w1 vp vq P Q v b0 b1 b2 b3 b4 b5 b6 b7 s19 s20 s21 s22 s23 s24 s5 s6) {s : Value} (hs : s = vq) : D7 w1 vp vq P Q v b0 b1 b2 true b4 b5 b6 b7 s19 s20 s21 s s23 s24 s5 s6 := by
  obtain ⟨h, h0, h1, h2, h3, h4, h5, h6, h7, hd⟩ := h
  exact ⟨h, h0, h1, h2, fun _ => hs, h4, h5, h6, h7, hd⟩
theorem D7.set4 {w1 : World} {vp vq : Value} {P Q : Pc} {v : World} {b0 b1 b2 b3 b4 b5 b6 b7 : Bool} {s19 s20 s21 s22 s23 s24 s5 s6 : Value} (h : D7 w1 vp vq P Q v b0 b1 b2 b3 b4 b5 b6 b7 s19 s20 s21 s22 s23 s24 s5 s6) {s : Value} (hs : PcV v Q s) : D7 w1 vp vq P Q v b0 b1 b2 b3 true b5 b6 b7 s19 s20 s21 s22 s s24 s5 s6 := by
  obtain ⟨h, h0, h1, h2, h3, h4, h5, h6, h7, hd⟩ := h
  exact ⟨h, h0, h1, h2, h3, fun _ => hs, h5, h6, h7, hd⟩
theorem D7.set5 {w1 : World} {vp vq : Value} {P Q : Pc} {v : World} {b0 b1 b2 b3 b4 b5 b6 b7 : Bool} {s19 s20 s21 s22 s23 s24 s5 s6 : Value} (h : D7 w1 vp vq P Q v b0 b1 b2 b3 b4 b5 b6 b7 s19 s20 s21 s22 s23 s24 s5 s6) {s : Value} (hs : PcV v Q s) : D7 w1 vp vq P Q v b0 b1 b2 b3 b4 true b6 b7 s19 s20 s21 s22 s23 s s5 s6 := by
  obtain ⟨h, h0, h1, h2, h3, h4, h5, h6, h7, hd⟩ := h
  exact ⟨h, h0, h1, h2, h3, h4, fun _ => hs, h6, h7, hd⟩
theorem D7.set6 {w1 : World} {vp vq : Value} {P Q : Pc} {v : World} {b0 b1 b2 b3 b4 b5 b6 b7 : Bool} {s19 s20 s21 s22 s23 s24 s5 s6 : Value} (h : D7 w1 vp vq P Q v b0 b1 b2 b3 b4 b5 b6 b7 s19 s20 s21 s22 s23 s24 s5 s6) {s : Value} (hs : PtZ w1.heap.size v s) (hn : b7 = true → s ≠ s6) : D7 w1 vp vq P Q v b0 b1 b2 b3 b4 b5 true b7 s19 s20 s21 s22 s23 s24 s s6 := by
  obtain ⟨h, h0, h1, h2, h3, h4, h5, h6, h7, hd⟩ := h
  exact ⟨h, h0, h1, h2, h3, h4, h5, fun _ => hs, h7, fun _ e => hn e⟩
theorem D7.set7 {w1 : World} {vp vq : Value} {P Q : Pc} {v : World} {b0 b1 b2 b3 b4 b5 b6 b7 : Bool} {s19 s20 s21 s22 s23 s24 s5 s6 : Value} (h : D7 w1 vp vq P Q v b0 b1 b2 b3 b4 b5 b6 b7 s19 s20 s21 s22 s23 s24 s5 s6) {s : Value} (hs : PtZ w1.heap.size v s) (hn : b6 = true → s5 ≠ s) : D7 w1 vp vq P Q v b0 b1 b2 b3 b4 b5 b6 true s19 s20 s21 s22 s23 s24 s5 s := by
  obtain ⟨h, h0, h1, h2, h3, h4, h5, h6, h7, hd⟩ := h
  exact ⟨h, h0, h1, h2, h3, h4, h5, h6, fun _ => hs, fun e _ => hn e⟩

theorem fine_mix {P Q : Pc} (F : Fine P) (G : Fine Q) : Fine ⟨Q.s, Q.c, Q.hs, P.x⟩ := by
  obtain ⟨f1, f2, f3, f4⟩ := F
  obtain ⟨g1, g2, g3, g4⟩ := G
  obtain ⟨a, b, _, c⟩ := (ok_iff _).1 g1
  exact ⟨(ok_iff _).2 ⟨a, b, f4, c⟩, g2, g3, f4⟩
/-- Where a row that is not empty lies. -/
theorem Rd.where {w : World} {a : Option Addr} {l : List Value} (h : Rd w a l) (hl : 0 < l.length) : ∃ g o, a = some ⟨g, o, none⟩ := by
  obtain ⟨g, o, e, _⟩ := h 0 _ (List.getElem?_eq_getElem hl)
  exact ⟨g, o, e⟩

set_option maxRecDepth 100000 in
set_option maxHeartbeats 8000000 in
theorem data_law (s : Int) (c : Bool) (a : Option Addr) (cap : Nat) (x : ByteArray) (hn : List (Int × Int)) (s' : Int) (c' : Bool) (a' : Option Addr) (cap' : Nat) (x' : ByteArray) (hn' : List (Int × Int)) (w : World) (hm : hn.length ≤ maxLen) (hx : x.size ≤ maxLen) (hm' : hn'.length ≤ maxLen) (hx' : x'.size ≤ maxLen) (hr : Rd w a (pc hn)) (hr' : Rd w a' (pc hn')) :
    Calls Try.prog 7 #[pcv s c (.slice a hn.length cap) x, pcv s' c' (.slice a' hn'.length cap') x'] w fun e w' => e = .returned (.bool true) ∧ Below w.heap.size w w' := by
  have F := fine ⟨s, c, hn, x⟩
  have G := fine ⟨s', c', hn', x'⟩
  have HBP : Hid (bp (gd ⟨s, c, hn, x⟩) = gd ⟨s, c, hn, x⟩) := bp_gd _
  have HBQ : Hid (bp (gd ⟨s', c', hn', x'⟩) = gd ⟨s', c', hn', x'⟩) := bp_gd _
  have GC : ∀ w', Rd w' a (pc hn) → Calls Try.prog 20 #[pcv s c (.slice a hn.length cap) x] w' (PcR w' (gd ⟨s, c, hn, x⟩)) := fun w' h => good_any s c a cap x hn w' hm hx h
  have GD : ∀ w', Rd w' a' (pc hn') → Calls Try.prog 20 #[pcv s' c' (.slice a' hn'.length cap') x'] w' (PcR w' (gd ⟨s', c', hn', x'⟩)) := fun w' h => good_any s' c' a' cap' x' hn' w' hm' hx' h
  generalize gd ⟨s, c, hn, x⟩ = P at *
  generalize gd ⟨s', c', hn', x'⟩ = Q at *
  obtain ⟨n, e1⟩ : ∃ n, hn.length = n := ⟨_, rfl⟩
  obtain ⟨n', e2⟩ : ∃ n, hn'.length = n := ⟨_, rfl⟩
  rw [e1] at GC ⊢
  rw [e2] at GD ⊢
  have HR : Hid (Rd w a (pc hn)) := hr
  have HR' : Hid (Rd w a' (pc hn')) := hr'
  have HG : Hid (∀ w', Rd w' a (pc hn) → Calls Try.prog 20 #[pcv s c (.slice a n cap) x] w' (PcR w' P)) := GC
  have HG' : Hid (∀ w', Rd w' a' (pc hn') → Calls Try.prog 20 #[pcv s' c' (.slice a' n' cap') x'] w' (PcR w' Q)) := GD
  have B0 := two_blocks w #[.int .i64 s, .bool c, .slice a n cap, .string x] #[.int .i64 s', .bool c', .slice a' n' cap', .string x'] 24 24
  have LV := lives_any ((w.alloc (.cells #[.int .i64 s, .bool c, .slice a n cap, .string x] 24)).alloc (.cells #[.int .i64 s', .bool c', .slice a' n' cap', .string x'] 24))
  clear hr hr' e1 e2 hm hx hm' hx' GC GD
  simp only [pcv, pcc] at *
  go_enter Try.func7, Try.ntmps7
  go_wp2_with fail
  go_at_call 8
  with_reducible refine LV.mono ?_
  rintro e w1 ⟨rfl, hb1⟩
  have HB1 : Hid (Below w.heap.size w w1) := B0.out.2.2.1.trans (hb1.mono B0.out.2.2.1.size)
  have H1 : Hid (Bk w1 w.heap.size #[.int .i64 s, .bool c, .slice a n cap, .string x] 24) := B0.out.1.next hb1
  have H2 : Hid (Bk w1 (w.heap.size + 1) #[.int .i64 s', .bool c', .slice a' n' cap', .string x'] 24) := B0.out.2.1.next hb1
  clear LV hb1 B0
  have SS : ∀ V, Below w1.heap.size w1 V → (fun V : World => V.cell? ⟨w.heap.size, 0, none⟩ = some (.int .i64 s) ∧ V.cell? ⟨w.heap.size, 1, none⟩ = some (.bool c) ∧ V.cell? ⟨w.heap.size, 2, none⟩ = some (.slice a n cap) ∧ V.cell? ⟨w.heap.size, 3, none⟩ = some (.string x) ∧ V.cell? ⟨w.heap.size + 1, 0, none⟩ = some (.int .i64 s') ∧ V.cell? ⟨w.heap.size + 1, 1, none⟩ = some (.bool c') ∧ V.cell? ⟨w.heap.size + 1, 2, none⟩ = some (.slice a' n' cap') ∧ V.cell? ⟨w.heap.size + 1, 3, none⟩ = some (.string x')) V := fun V h => ⟨(H1.out.next h).cell 0, (H1.out.next h).cell 1, (H1.out.next h).cell 2, (H1.out.next h).cell 3, (H2.out.next h).cell 0, (H2.out.next h).cell 1, (H2.out.next h).cell 2, (H2.out.next h).cell 3⟩
  have HW : Below w1.heap.size w1 w1.drew := (Below.refl _ _).drew
  have T1 : (fun V : World => V.cell? ⟨w.heap.size, 0, none⟩ = some (.int .i64 s) ∧ V.cell? ⟨w.heap.size, 1, none⟩ = some (.bool c) ∧ V.cell? ⟨w.heap.size, 2, none⟩ = some (.slice a n cap) ∧ V.cell? ⟨w.heap.size, 3, none⟩ = some (.string x) ∧ V.cell? ⟨w.heap.size + 1, 0, none⟩ = some (.int .i64 s') ∧ V.cell? ⟨w.heap.size + 1, 1, none⟩ = some (.bool c') ∧ V.cell? ⟨w.heap.size + 1, 2, none⟩ = some (.slice a' n' cap') ∧ V.cell? ⟨w.heap.size + 1, 3, none⟩ = some (.string x')) w1.drew := SS _ HW
  have HB1' : Below w.heap.size w w1.drew := HB1.out.drew
  have GP := HG.out w1.drew (HR.out.below HB1')
  have DQ : ∀ V, Below w1.heap.size w1 V → _ := fun V h => HG'.out V (HR'.out.below (HB1.out.trans (h.mono HB1.out.size)))
  have GPc : ∀ V, Below w1.heap.size w1 V → _ := fun V h => HG.out V (HR.out.below (HB1.out.trans (h.mono HB1.out.size)))
  have KP : ∀ (g : Option Addr) (z : Nat) (V : World), Rd V g (pc P.hs) → _ := fun g z V h => F.back g z V h HBP.out
  have KQ : ∀ (g : Option Addr) (z : Nat) (V : World), Rd V g (pc Q.hs) → _ := fun g z V h => G.back g z V h HBQ.out
  simp only [pcv, pcc] at KP KQ
  have GF : Hid (Fine P) := F
  have GG : Hid (Fine Q) := G
  clear HG HG' HR HR' T1 HB1' GP F G HBP HBQ
  go_wp2_with fail
  refine wp_region_inv (fun a0 listed aa v => ∃ (b0 b1 b2 b3 b4 b5 b6 b7 : Bool) (s19 s20 s21 s22 s23 s24 s5 s6 : Value), listed = #[b0, b1, b2, b3, b4, b5, b6, b7, false, false] ∧ aa = ((((((((a0.put (some 19) s19).put (some 20) s20).put (some 21) s21).put (some 22) s22).put (some 23) s23).put (some 24) s24).put (some 5) s5).put (some 6) s6) ∧ ((b1 = true → b0 = true) ∧ (b2 = true → b1 = true) ∧ (b4 = true → b3 = true) ∧ (b4 = true → b2 = true) ∧ (b5 = true → b4 = true)) ∧ D7 w1 (.agg #[.int .i64 s, .bool c, .slice a n cap, .string x]) (.agg #[.int .i64 s', .bool c', .slice a' n' cap', .string x']) P Q v b0 b1 b2 b3 b4 b5 b6 b7 s19 s20 s21 s22 s23 s24 s5 s6) #[true, true, true, true, true, true, true, true, false, false] (by kernel_rfl) ?h0 ?hstep ?hgo ?hD
  case h0 => exact ⟨false, false, false, false, false, false, false, false, undef, undef, undef, undef, undef, undef, undef, undef, rfl, rfl, ⟨fun e => absurd e Bool.false_ne_true, fun e => absurd e Bool.false_ne_true, fun e => absurd e Bool.false_ne_true, fun e => absurd e Bool.false_ne_true, fun e => absurd e Bool.false_ne_true⟩, HW, fun e => absurd e Bool.false_ne_true, fun e => absurd e Bool.false_ne_true, fun e => absurd e Bool.false_ne_true, fun e => absurd e Bool.false_ne_true, fun e => absurd e Bool.false_ne_true, fun e => absurd e Bool.false_ne_true, fun e => absurd e Bool.false_ne_true, fun e => absurd e Bool.false_ne_true, fun e => absurd e Bool.false_ne_true⟩
  case hgo =>
    rintro listed aa v ⟨b0, b1, b2, b3, b4, b5, b6, b7, s19, s20, s21, s22, s23, s24, s5, s6, rfl, -, ⟨k0, k1, k2, k3, k4⟩, -⟩ hne
    revert hne
    revert k0 k1 k2 k3 k4
    revert b0 b1 b2 b3 b4 b5 b6 b7
    decide +kernel
  case hstep =>
    rintro listed aa v ⟨b0, b1, b2, b3, b4, b5, b6, b7, s19, s20, s21, s22, s23, s24, s5, s6, rfl, rfl, ⟨k0, k1, k2, k3, k4⟩, HF⟩ hne i hi
    have hi2 := ready_split (fun i => (i == 0 && (!b0)) || ((i == 1 && (!b1 && b0)) || ((i == 2 && (!b2 && b1)) || ((i == 3 && (!b3)) || ((i == 4 && (!b4 && b3 && b2)) || ((i == 5 && (!b5 && b4)) || ((i == 6 && (!b6)) || ((i == 7 && (!b7)))))))))) hi (by
      clear HF hi
      revert hne
      revert k0 k1 k2 k3 k4
      revert b0 b1 b2 b3 b4 b5 b6 b7
      decide +kernel)
    simp only [Bool.or_eq_true, Bool.and_eq_true, beq_iff_eq, Bool.not_eq_true'] at hi2
    clear hi hne
    have HH : Hid (D7 w1 (.agg #[.int .i64 s, .bool c, .slice a n cap, .string x]) (.agg #[.int .i64 s', .bool c', .slice a' n' cap', .string x']) P Q v b0 b1 b2 b3 b4 b5 b6 b7 s19 s20 s21 s22 s23 s24 s5 s6) := HF
    have HB : Hid (Below w1.heap.size w1 v) := HF.1
    have HK : Hid ((b1 = true → b0 = true) ∧ (b2 = true → b1 = true) ∧ (b4 = true → b3 = true) ∧ (b4 = true → b2 = true) ∧ (b5 = true → b4 = true)) := ⟨k0, k1, k2, k3, k4⟩
    clear HF k0 k1 k2 k3 k4
    simp only [Act.put, List.setIfInBounds_toArray, List.set_cons_zero, List.set_cons_succ]
    rcases hi2 with ⟨rfl, rfl⟩ | ⟨rfl, ⟨rfl, e0⟩⟩ | ⟨rfl, ⟨rfl, e1⟩⟩ | ⟨rfl, rfl⟩ | ⟨rfl, ⟨⟨rfl, e3⟩, e2⟩⟩ | ⟨rfl, ⟨rfl, e4⟩⟩ | ⟨rfl, rfl⟩ | ⟨rfl, rfl⟩
    · obtain ⟨d0, d1, d2, d3, d4, d5, d6, d7⟩ := SS v HB.out
      refine wpOp_one (i := 0) rfl (fun K hK => ?_)
      go_simp
      obtain ⟨k0, k1, k2, k3, k4⟩ := HK.out
      refine hK.out _ _ ⟨true, b1, b2, b3, b4, b5, b6, b7, _, _, _, _, _, _, _, _, rfl, rfl, ⟨fun _ => rfl, k1, k2, k3, k4⟩, HH.out.set0 rfl⟩
    · obtain rfl := HH.out.get0 e0
      have CC := GPc v HB.out
      refine wpOp_one (i := 1) rfl (fun K hK => ?_)
      go_simp
      with_reducible refine CC.mono ?_
      rintro e v2 ⟨g1, z1, rfl, q1, r1, hb⟩
      obtain ⟨k0, k1, k2, k3, k4⟩ := HK.out
      refine hK.out _ _ ⟨b0, true, b2, b3, b4, b5, b6, b7, _, _, _, _, _, _, _, _, rfl, rfl, ⟨fun _ => e0, fun _ => rfl, k2, k3, k4⟩, (HH.out.next hb).set1 ⟨g1, z1, rfl, q1, r1⟩⟩
    · obtain ⟨g0, z0, rfl, q0, r0⟩ := HH.out.get1 e1
      have CC := KP g0 z0 v r0
      refine wpOp_one (i := 2) rfl (fun K hK => ?_)
      go_simp
      with_reducible refine CC.mono ?_
      rintro e v2 ⟨g1, z1, rfl, q1, r1, hb⟩
      obtain ⟨k0, k1, k2, k3, k4⟩ := HK.out
      refine hK.out _ _ ⟨b0, b1, true, b3, b4, b5, b6, b7, _, _, _, _, _, _, _, _, rfl, rfl, ⟨k0, fun _ => e1, k2, fun _ => rfl, k4⟩, (HH.out.next hb).set2 ⟨g1, z1, rfl, q1, r1⟩⟩
    · obtain ⟨d0, d1, d2, d3, d4, d5, d6, d7⟩ := SS v HB.out
      refine wpOp_one (i := 3) rfl (fun K hK => ?_)
      go_simp
      obtain ⟨k0, k1, k2, k3, k4⟩ := HK.out
      refine hK.out _ _ ⟨b0, b1, b2, true, b4, b5, b6, b7, _, _, _, _, _, _, _, _, rfl, rfl, ⟨k0, k1, fun _ => rfl, k3, k4⟩, HH.out.set3 rfl⟩
    · obtain rfl := HH.out.get3 e3
      have CC := DQ v HB.out
      refine wpOp_one (i := 4) rfl (fun K hK => ?_)
      go_simp
      with_reducible refine CC.mono ?_
      rintro e v2 ⟨g1, z1, rfl, q1, r1, hb⟩
      obtain ⟨k0, k1, k2, k3, k4⟩ := HK.out
      refine hK.out _ _ ⟨b0, b1, b2, b3, true, b5, b6, b7, _, _, _, _, _, _, _, _, rfl, rfl, ⟨k0, k1, fun _ => e3, fun _ => e2, fun _ => rfl⟩, (HH.out.next hb).set4 ⟨g1, z1, rfl, q1, r1⟩⟩
    · obtain ⟨g0, z0, rfl, q0, r0⟩ := HH.out.get4 e4
      have CC := KQ g0 z0 v r0
      refine wpOp_one (i := 5) rfl (fun K hK => ?_)
      go_simp
      with_reducible refine CC.mono ?_
      rintro e v2 ⟨g1, z1, rfl, q1, r1, hb⟩
      obtain ⟨k0, k1, k2, k3, k4⟩ := HK.out
      refine hK.out _ _ ⟨b0, b1, b2, b3, b4, true, b6, b7, _, _, _, _, _, _, _, _, rfl, rfl, ⟨k0, k1, k2, k3, fun _ => e4⟩, (HH.out.next hb).set5 ⟨g1, z1, rfl, q1, r1⟩⟩
    · have NB : Below v.heap.size v (v.alloc (.cells #[.int .i64 0, .bool false, .slice none 0 0, .string ⟨#[]⟩] 28)) := (Below.refl _ _).alloc (Nat.le_refl _) _
      have NBh : Hid (Below v.heap.size v (v.alloc (.cells #[.int .i64 0, .bool false, .slice none 0 0, .string ⟨#[]⟩] 28))) := NB
      clear NB
      refine wpOp_one (i := 6) rfl (fun K hK => ?_)
      go_simp
      obtain ⟨k0, k1, k2, k3, k4⟩ := HK.out
      refine hK.out _ _ ⟨b0, b1, b2, b3, b4, b5, true, b7, _, _, _, _, _, _, _, _, rfl, rfl, ⟨k0, k1, k2, k3, k4⟩, (HH.out.next NBh.out).set6 ⟨v.heap.size, rfl, HB.out.size, Bk.new _ _ _⟩ (fun e => ((HH.out.get7 e).ne_new))⟩
    · have NB : Below v.heap.size v (v.alloc (.cells #[.int .i64 0, .bool false, .slice none 0 0, .string ⟨#[]⟩] 28)) := (Below.refl _ _).alloc (Nat.le_refl _) _
      have NBh : Hid (Below v.heap.size v (v.alloc (.cells #[.int .i64 0, .bool false, .slice none 0 0, .string ⟨#[]⟩] 28))) := NB
      clear NB
      refine wpOp_one (i := 7) rfl (fun K hK => ?_)
      go_simp
      obtain ⟨k0, k1, k2, k3, k4⟩ := HK.out
      refine hK.out _ _ ⟨b0, b1, b2, b3, b4, b5, b6, true, _, _, _, _, _, _, _, _, rfl, rfl, ⟨k0, k1, k2, k3, k4⟩, (HH.out.next NBh.out).set7 ⟨v.heap.size, rfl, HB.out.size, Bk.new _ _ _⟩ (fun e => Ne.symm ((HH.out.get6 e).ne_new))⟩
  case hD =>
    rintro aa v ⟨b0, b1, b2, b3, b4, b5, b6, b7, s19, s20, s21, s22, s23, s24, s5, s6, eL, rfl, -, HF⟩ fuel hf
    have eL2 : b0 = true ∧ b1 = true ∧ b2 = true ∧ b3 = true ∧ b4 = true ∧ b5 = true ∧ b6 = true ∧ b7 = true := by
      simp at eL
      simp [eL]
    obtain ⟨rfl, rfl, rfl, rfl, rfl, rfl, rfl, rfl⟩ := eL2
    have hl2 : leftOf #[true, true, true, true, true, true, true, true, false, false] = 2 := by rfl
    obtain ⟨k, rfl⟩ : ∃ k, fuel = k + 2 := ⟨fuel - 2, by omega⟩
    clear hl2
    obtain ⟨bx, rfl, lx, kx⟩ := HF.get6 rfl
    obtain ⟨by', rfl, ly, ky⟩ := HF.get7 rfl
    obtain ⟨gx, zx, rfl, qx, rx⟩ := HF.get2 rfl
    obtain ⟨gy, zy, rfl, qy, ry⟩ := HF.get5 rfl
    have hne : ¬ by' = bx := fun e => HF.dist rfl rfl (by rw [e])
    have KX : Hid (Bk v bx #[.int .i64 0, .bool false, .slice none 0 0, .string ⟨#[]⟩] 28) := kx
    have KY : Hid (Bk v by' #[.int .i64 0, .bool false, .slice none 0 0, .string ⟨#[]⟩] 28) := ky
    have RX : Hid (Rd v gx (pc P.hs)) := rx
    have RY : Hid (Rd v gy (pc Q.hs)) := ry
    have LB : Hid (Below w1.heap.size w1 v) := HF.1
    have x0 := kx.cell 0
    have x1 := kx.cell 1
    have x2 := kx.cell 2
    have x3 := kx.cell 3
    have z0 := kx.free 0
    have z1 := kx.free 1
    have z2 := kx.free 2
    have z3 := kx.free 3
    simp only [List.getElem?_toArray, List.getElem?_cons_zero, List.getElem?_cons_succ] at x0 x1 x2 x3
    clear HF kx ky rx ry eL hf
    simp only [Act.put, List.setIfInBounds_toArray, List.set_cons_zero, List.set_cons_succ]
    refine wpAny_of_G (S := fun _ => True) (st := 9) _ _ _ _ ?_
    refine wpAnyG_one (i := 8) (by kernel_rfl) rfl (fun K hK => ?_)
    go_simp
    refine hK.out _ _ (Or.inr trivial) ?_
    clear hK K x0 x1 x2 x3 z0 z1 z2 z3
    have KX2 := four_at (x0 := .int .i64 P.s) (x1 := .bool P.c) (x2 := .slice gx P.hs.length zx) (x3 := .string P.x) KX.out
    have KY2 := four_far (x0 := .int .i64 P.s) (x1 := .bool P.c) (x2 := .slice gx P.hs.length zx) (x3 := .string P.x) KY.out hne
    have RX2 := four_rd (x0 := .int .i64 P.s) (x1 := .bool P.c) (x2 := .slice gx P.hs.length zx) (x3 := .string P.x) RX.out KX.out
    have RY2 := four_rd (x0 := .int .i64 P.s) (x1 := .bool P.c) (x2 := .slice gx P.hs.length zx) (x3 := .string P.x) RY.out KX.out
    have LB2 := below_four LB.out lx (.int .i64 P.s) (.bool P.c) (.slice gx P.hs.length zx) (.string P.x)
    clear KX KY RX RY LB
    generalize (((v.setCell ⟨bx, 0, none⟩ (.int .i64 P.s)).setCell ⟨bx, 1, none⟩ (.bool P.c)).setCell ⟨bx, 2, none⟩ (.slice gx P.hs.length zx)).setCell ⟨bx, 3, none⟩ (.string P.x) = v2 at *
    have KX : Hid (Bk v2 bx #[.int .i64 P.s, .bool P.c, .slice gx P.hs.length zx, .string P.x] 28) := KX2
    have KY : Hid (Bk v2 by' #[.int .i64 0, .bool false, .slice none 0 0, .string ⟨#[]⟩] 28) := KY2
    have RX : Hid (Rd v2 gx (pc P.hs)) := RX2
    have RY : Hid (Rd v2 gy (pc Q.hs)) := RY2
    have LB : Hid (Below w1.heap.size w1 v2) := LB2
    have x0 := KY2.cell 0
    have x1 := KY2.cell 1
    have x2 := KY2.cell 2
    have x3 := KY2.cell 3
    have z0 := KY2.free 0
    have z1 := KY2.free 1
    have z2 := KY2.free 2
    have z3 := KY2.free 3
    simp only [List.getElem?_toArray, List.getElem?_cons_zero, List.getElem?_cons_succ] at x0 x1 x2 x3
    clear KX2 KY2 RX2 RY2 LB2
    refine wpAnyG_one (i := 9) (by kernel_rfl) rfl (fun K hK => ?_)
    go_simp
    refine hK.out _ _ (Or.inr trivial) ?_
    clear hK K x0 x1 x2 x3 z0 z1 z2 z3
    have hne2 : ¬ bx = by' := fun e => hne e.symm
    have KX2 := four_far (x0 := .int .i64 Q.s) (x1 := .bool Q.c) (x2 := .slice gy Q.hs.length zy) (x3 := .string Q.x) KX.out hne2
    have KY2 := four_at (x0 := .int .i64 Q.s) (x1 := .bool Q.c) (x2 := .slice gy Q.hs.length zy) (x3 := .string Q.x) KY.out
    have RX2 := four_rd (x0 := .int .i64 Q.s) (x1 := .bool Q.c) (x2 := .slice gy Q.hs.length zy) (x3 := .string Q.x) RX.out KY.out
    have RY2 := four_rd (x0 := .int .i64 Q.s) (x1 := .bool Q.c) (x2 := .slice gy Q.hs.length zy) (x3 := .string Q.x) RY.out KY.out
    have LB2 := below_four LB.out ly (.int .i64 Q.s) (.bool Q.c) (.slice gy Q.hs.length zy) (.string Q.x)
    clear KX KY RX RY LB
    generalize (((v2.setCell ⟨by', 0, none⟩ (.int .i64 Q.s)).setCell ⟨by', 1, none⟩ (.bool Q.c)).setCell ⟨by', 2, none⟩ (.slice gy Q.hs.length zy)).setCell ⟨by', 3, none⟩ (.string Q.x) = v3 at *
    have KX : Hid (Bk v3 bx #[.int .i64 P.s, .bool P.c, .slice gx P.hs.length zx, .string P.x] 28) := KX2
    have KY : Hid (Bk v3 by' #[.int .i64 Q.s, .bool Q.c, .slice gy Q.hs.length zy, .string Q.x] 28) := KY2
    have RX : Hid (Rd v3 gx (pc P.hs)) := RX2
    have RY : Hid (Rd v3 gy (pc Q.hs)) := RY2
    have LB : Hid (Below w1.heap.size w1 v3) := LB2
    clear KX2 KY2 RX2 RY2 LB2
    refine wpAnyG_done (by kernel_rfl) ?_ _
    clear DQ GPc KP KQ SS HW H1 H2
    have LW : Hid (Below w.heap.size w v3) := HB1.out.trans (LB.out.mono HB1.out.size)
    clear LB HB1
    have d0 := KY.out.cell 0
    have d1 := KY.out.cell 1
    have d2 := KY.out.cell 2
    have d3 := KY.out.cell 3
    have x3 := KX.out.cell 3
    simp only [List.getElem?_toArray, List.getElem?_cons_zero, List.getElem?_cons_succ] at d0 d1 d2 d3 x3
    have hzx : bx < v3.heap.size := KX.out.lt
    have hzy : by' < v3.heap.size := KY.out.lt
    have HZB : Hid (Bk (v3.alloc (.cells #[.int .i64 Q.s, .bool Q.c, .slice gy Q.hs.length zy, .string P.x] 28)) v3.heap.size #[.int .i64 Q.s, .bool Q.c, .slice gy Q.hs.length zy, .string P.x] 28) := Bk.new _ _ _
    have LZ : Hid (Below w.heap.size w (v3.alloc (.cells #[.int .i64 Q.s, .bool Q.c, .slice gy Q.hs.length zy, .string P.x] 28))) := LW.out.alloc LW.out.size _
    have XZ : Hid (Bk (v3.alloc (.cells #[.int .i64 Q.s, .bool Q.c, .slice gy Q.hs.length zy, .string P.x] 28)) bx #[.int .i64 P.s, .bool P.c, .slice gx P.hs.length zx, .string P.x] 28) := KX.out.alloc _
    have YZ : Hid (Bk (v3.alloc (.cells #[.int .i64 Q.s, .bool Q.c, .slice gy Q.hs.length zy, .string P.x] 28)) by' #[.int .i64 Q.s, .bool Q.c, .slice gy Q.hs.length zy, .string Q.x] 28) := KY.out.alloc _
    have RXZ : Hid (Rd (v3.alloc (.cells #[.int .i64 Q.s, .bool Q.c, .slice gy Q.hs.length zy, .string P.x] 28)) gx (pc P.hs)) := RX.out.alloc _
    have RYZ : Hid (Rd (v3.alloc (.cells #[.int .i64 Q.s, .bool Q.c, .slice gy Q.hs.length zy, .string P.x] 28)) gy (pc Q.hs)) := RY.out.alloc _
    clear KX KY RX RY LW
    go_upto_region 6 with fail
    generalize v3.alloc (.cells #[.int .i64 Q.s, .bool Q.c, .slice gy Q.hs.length zy, .string P.x] 28) = v4 at *
    generalize v3.heap.size = z at *
    clear d0 d1 d2 d3 x3
    have GZ : Hid (Fine ⟨Q.s, Q.c, Q.hs, P.x⟩) := fine_mix GF.out GG.out
    have d0 := XZ.out.cell 0
    have d1 := XZ.out.cell 1
    have d2 := XZ.out.cell 2
    have d3 := XZ.out.cell 3
    simp only [List.getElem?_toArray, List.getElem?_cons_zero, List.getElem?_cons_succ] at d0 d1 d2 d3
    have WP := GF.out.words gx zx v4 RXZ.out
    simp only [pcv, pcc] at WP
    go_wp2_with fail
    go_at_call 10
    with_reducible refine WP.mono ?_
    rintro e v5 ⟨la, lcap, rfl, hlc, rl5, hb5⟩
    have L5 : Hid (Below w.heap.size w v5) := LZ.out.trans (hb5.mono LZ.out.size)
    have X5 : Hid (Bk v5 bx #[.int .i64 P.s, .bool P.c, .slice gx P.hs.length zx, .string P.x] 28) := XZ.out.next hb5
    have Y5 : Hid (Bk v5 by' #[.int .i64 Q.s, .bool Q.c, .slice gy Q.hs.length zy, .string Q.x] 28) := YZ.out.next hb5
    have Z5 : Hid (Bk v5 z #[.int .i64 Q.s, .bool Q.c, .slice gy Q.hs.length zy, .string P.x] 28) := HZB.out.next hb5
    have RY5 : Hid (Rd v5 gy (pc Q.hs)) := RYZ.out.below hb5
    have RL5 : Hid (Rd v5 la (vw P.ws)) := rl5
    have HLC : Hid (P.ws.length ≤ lcap) := hlc
    clear d0 d1 d2 d3 WP XZ YZ HZB RXZ RYZ LZ rl5 hb5 hlc
    have d0 := Y5.out.cell 0
    have d1 := Y5.out.cell 1
    have d2 := Y5.out.cell 2
    have d3 := Y5.out.cell 3
    simp only [List.getElem?_toArray, List.getElem?_cons_zero, List.getElem?_cons_succ] at d0 d1 d2 d3
    have WQ := GG.out.words gy zy v5 RY5.out
    simp only [pcv, pcc] at WQ
    go_wp2_with fail
    go_at_call 10
    with_reducible refine WQ.mono ?_
    rintro e v6 ⟨lb, bcap, rfl, hbc, rl6, hb6⟩
    have L6 : Hid (Below w.heap.size w v6) := L5.out.trans (hb6.mono L5.out.size)
    have X6 : Hid (Bk v6 bx #[.int .i64 P.s, .bool P.c, .slice gx P.hs.length zx, .string P.x] 28) := X5.out.next hb6
    have Y6 : Hid (Bk v6 by' #[.int .i64 Q.s, .bool Q.c, .slice gy Q.hs.length zy, .string Q.x] 28) := Y5.out.next hb6
    have Z6 : Hid (Bk v6 z #[.int .i64 Q.s, .bool Q.c, .slice gy Q.hs.length zy, .string P.x] 28) := Z5.out.next hb6
    have RY6 : Hid (Rd v6 gy (pc Q.hs)) := RY5.out.below hb6
    have RL6 : Hid (Rd v6 la (vw P.ws)) := RL5.out.below hb6
    have RB6 : Hid (Rd v6 lb (vw Q.ws)) := rl6
    have HBC : Hid (Q.ws.length ≤ bcap) := hbc
    clear d0 d1 d2 d3 WQ X5 Y5 Z5 RY5 L5 RL5 rl6 hb6 hbc
    have d0 := Z6.out.cell 0
    have d1 := Z6.out.cell 1
    have d2 := Z6.out.cell 2
    have d3 := Z6.out.cell 3
    simp only [List.getElem?_toArray, List.getElem?_cons_zero, List.getElem?_cons_succ] at d0 d1 d2 d3
    have WZ := GZ.out.words gy zy v6 RY6.out
    simp only [pcv, pcc] at WZ
    go_wp2_with fail
    go_at_call 10
    with_reducible refine WZ.mono ?_
    rintro e v7 ⟨lc, ccap, rfl, hcc, rl7, hb7⟩
    have L7 : Hid (Below w.heap.size w v7) := L6.out.trans (hb7.mono L6.out.size)
    have X7 : Hid (Bk v7 bx #[.int .i64 P.s, .bool P.c, .slice gx P.hs.length zx, .string P.x] 28) := X6.out.next hb7
    have Y7 : Hid (Bk v7 by' #[.int .i64 Q.s, .bool Q.c, .slice gy Q.hs.length zy, .string Q.x] 28) := Y6.out.next hb7
    have RL7 : Hid (Rd v7 la (vw P.ws)) := RL6.out.below hb7
    have RB7 : Hid (Rd v7 lb (vw Q.ws)) := RB6.out.below hb7
    have RC7 : Hid (Rd v7 lc (vw (Pc.ws ⟨Q.s, Q.c, Q.hs, P.x⟩))) := rl7
    have HCC : Hid ((Pc.ws ⟨Q.s, Q.c, Q.hs, P.x⟩).length ≤ ccap) := hcc
    clear d0 d1 d2 d3 WZ X6 Y6 Z6 RY6 L6 RL6 RB6 rl7 hb7 hcc
    obtain ⟨ga, oa, rfl⟩ := RL7.out.where (by rw [vw_len, GF.out.ws_small.2]; omega)
    obtain ⟨gb, ob, rfl⟩ := RB7.out.where (by rw [vw_len, GG.out.ws_small.2]; omega)
    obtain ⟨gc, oc, rfl⟩ := RC7.out.where (by rw [vw_len, GZ.out.ws_small.2]; omega)
    have RA8 : Hid (Rd v7 (some ⟨ga, oa + P.hs.length, none⟩) (vw (tw P.x))) := by
      have := RL7.out.drop P.hs.length
      rw [show (vw P.ws).drop P.hs.length = vw (tw P.x) by rw [← tw_drop]; unfold vw; rw [List.map_drop]] at this
      exact this
    have RB8 : Hid (Rd v7 (some ⟨gb, ob + Q.hs.length, none⟩) (vw (tw Q.x))) := by
      have := RB7.out.drop Q.hs.length
      rw [show (vw Q.ws).drop Q.hs.length = vw (tw Q.x) by rw [← tw_drop]; unfold vw; rw [List.map_drop]] at this
      exact this
    have RC8 : Hid (Rd v7 (some ⟨gc, oc + Q.hs.length, none⟩) (vw (tw P.x))) := by
      have := RC7.out.drop Q.hs.length
      rw [show (vw (Pc.ws ⟨Q.s, Q.c, Q.hs, P.x⟩)).drop Q.hs.length = vw (tw P.x) by rw [← tw_drop (⟨Q.s, Q.c, Q.hs, P.x⟩ : Pc)]; unfold vw; rw [List.map_drop]] at this
      exact this
    have q1 := GF.out.ws_small.2
    have q2 := GG.out.ws_small.2
    have q3 := GZ.out.ws_small.2
    simp only at q3
    have q4 := GF.out.l6
    have q5 := GG.out.l6
    have q6 := GF.out.x64
    have q7 := GG.out.x64
    have q8 := HLC.out
    have q9 := HBC.out
    have q10 := HCC.out
    clear RL7 RB7 RC7 HLC HBC HCC GF GG GZ
    generalize P.ws.length = np at *
    generalize Q.ws.length = qn at *
    generalize (Pc.ws ⟨Q.s, Q.c, Q.hs, P.x⟩).length = nz at *
    obtain ⟨mp, hmp⟩ : ∃ m, P.hs.length = m := ⟨_, rfl⟩
    obtain ⟨mq, hmq⟩ : ∃ m, Q.hs.length = m := ⟨_, rfl⟩
    rw [hmp] at q1 q4 RA8 X7 ⊢
    rw [hmq] at q2 q3 q5 RB8 RC8 Y7 ⊢
    clear hmp hmq
    obtain ⟨Px, hPx⟩ : ∃ m, P.x = m := ⟨_, rfl⟩
    obtain ⟨Qx, hQx⟩ : ∃ m, Q.x = m := ⟨_, rfl⟩
    rw [hPx] at q1 q3 q6 RA8 RC8 X7 ⊢
    rw [hQx] at q2 q7 RB8 Y7 ⊢
    clear hPx hQx
    have N1 : Hid (np = mp + (nb Px.size + 1)) := q1
    have N2 : Hid (qn = mq + (nb Qx.size + 1)) := q2
    have N3 : Hid (nz = mq + (nb Px.size + 1)) := q3
    have i1 : ¬ (np : Int) < (mp : Int) := by omega
    have i2 : ¬ (qn : Int) < (mq : Int) := by omega
    have i3 : ¬ (nz : Int) < (mq : Int) := by omega
    have i4 : mp < lcap := by omega
    have i5 : mq < bcap := by omega
    have i6 : mq < ccap := by omega
    have i7 : mp ≤ np := by omega
    have i8 : mq ≤ qn := by omega
    have i9 : mq ≤ nz := by omega
    clear q1 q2 q3
    have d2 := X7.out.cell 2
    have d3 := X7.out.cell 3
    have y2 := Y7.out.cell 2
    have y3 := Y7.out.cell 3
    simp only [List.getElem?_toArray, List.getElem?_cons_zero, List.getElem?_cons_succ] at d2 d3 y2 y3
    have SW : ∀ n, Calls Try.prog 17 #[.slice (some ⟨ga, oa + mp, none⟩) (np - mp) (lcap - mp), .slice (some ⟨gc, oc + mq, none⟩) (nz - mq) (ccap - mq)] (v7.drewN n) fun e w' => e = .returned (.bool true) ∧ ∃ m, w' = (v7.drewN n).drewN m := fun n => by
      have := samew_any (tw Px) (tw Px) (some ⟨ga, oa + mp, none⟩) (some ⟨gc, oc + mq, none⟩) (lcap - mp) (ccap - mq) (v7.drewN n) (by rw [tw_len]; unfold nb; omega) (by rw [tw_len]; unfold nb; omega) RA8.out RC8.out
      rw [decide_eq_true (rfl : tw Px = tw Px), tw_len] at this
      rw [show np - mp = nb Px.size + 1 by have := N1.out; omega, show nz - mq = nb Px.size + 1 by have := N3.out; omega]
      exact this
    go_upto_region 11 with fail
    go_quiet ((go_at_call 17; exact Calls.quiet_of (SW _)))
    obtain ⟨m1, rfl⟩ : ∃ m1, m1 = nq := ⟨_, rfl⟩
    clear SW RC8
    go_upto_region 13 with fail
    go_quiet (fail)
    obtain ⟨kx, hkx⟩ : ∃ kx, np - mp = kx := ⟨_, rfl⟩
    obtain ⟨ky, hky⟩ : ∃ ky, qn - mq = ky := ⟨_, rfl⟩
    have KXe : Hid (kx = nb Px.size + 1) := show _ = _ by have := N1.out; omega
    have KYe : Hid (ky = nb Qx.size + 1) := show _ = _ by have := N2.out; omega
    have kx11 : kx ≤ 11 := by have := KXe.out; unfold nb at this; omega
    have ky11 : ky ≤ 11 := by have := KYe.out; unfold nb at this; omega
    have kx1 : 0 < kx := by have := KXe.out; omega
    have ky1 : 0 < ky := by have := KYe.out; omega
    rw [hkx, hky]
    clear hkx hky N1 N2 N3
    have XH : Hid (Bk v7 bx #[.int .i64 P.s, .bool P.c, .slice gx mp zx, .string Px] 28) := X7.out
    clear d2 d3 y2 y3 i1 i2 i3 i4 i5 i6 i7 i8 i9 X7
    generalize P.s = Ps at *
    generalize P.c = Pc1 at *
    generalize Q.s = Qs at *
    generalize Q.c = Qc1 at *
    go_wp2_with fail
    go_loopw [16] (fun i wr => ∃ k u : Nat, k < kx ∧ k < ky ∧ i = .int .i64 k ∧ wr = v7.drewN u) (fun i _ => kx - (RowKit.intOf i).toNat)
    case atStart => exact ⟨0, _, kx1, ky1, rfl, World.drewN_drewN _ _ _⟩
    case round =>
      obtain ⟨k, u, hk, hk', rfl, rfl⟩ := hrel
      have B9 : Hid (Below w.heap.size w (v7.drewN u)) := dn L7.out u
      have e0 : (0 : Int) ≤ (k : Int) := by omega
      by_cases h1 : k + 1 < kx
      case neg =>
        have e1 : ¬ (k : Int) + 1 < (kx : Int) := by omega
        go_wp2
        go_ret
        exact ⟨rfl, B9.out⟩
      have e1 : (k : Int) + 1 < (kx : Int) := by omega
      by_cases h2 : k + 1 < ky
      case neg =>
        have e2 : ¬ (k : Int) + 1 < (ky : Int) := by omega
        go_wp2
        go_ret
        exact ⟨rfl, B9.out⟩
      have e2 : (k : Int) + 1 < (ky : Int) := by omega
      have e3 : (k : Int) < (kx : Int) := by omega
      have e4 : (k : Int) < (ky : Int) := by omega
      have j1 : k < nb Px.size := by have := KXe.out; omega
      have j2 : k < nb Qx.size := by have := KYe.out; omega
      have b1 : 6 * k + 6 ≤ Px.size := by have := nb_more.1 j1; rw [restX_size] at this; omega
      have b2 : 6 * k + 6 ≤ Qx.size := by have := nb_more.1 j2; rw [restX_size] at this; omega
      have b3 : 6 * (k : Int) + 6 ≤ (Px.size : Int) := by omega
      have b4 : 6 * (k : Int) + 6 ≤ (Qx.size : Int) := by omega
      obtain ⟨g1, o1, ea, _, l0⟩ := RA8.out k _ (vw_at (by rw [tw_len]; omega))
      obtain ⟨g2, o2, eb, _, l1⟩ := RB8.out k _ (vw_at (by rw [tw_len]; omega))
      simp only [Option.some.injEq, Addr.mk.injEq, and_true] at ea eb
      obtain ⟨rfl, rfl⟩ := ea
      obtain ⟨rfl, rfl⟩ := eb
      rw [tw_at j1] at l0
      rw [tw_at j2] at l1
      replace l0 : (v7.drewN u).cell? ⟨ga, oa + mp + k, none⟩ = some (.int .u64 (((bdF Px k).word : Nat) : Int)) := l0
      replace l1 : (v7.drewN u).cell? ⟨gb, ob + mq + k, none⟩ = some (.int .u64 (((bdF Qx k).word : Nat) : Int)) := l1
      have HBS := bd_same j1 j2
      have d3 : (v7.drewN u).cell? ⟨bx, 3, none⟩ = some (.string Px) := XH.out.cell 3
      have y3 : (v7.drewN u).cell? ⟨by', 3, none⟩ = some (.string Qx) := Y7.out.cell 3
      generalize (bdF Px k).word = W1 at *
      generalize (bdF Qx k).word = W2 at *
      obtain ⟨v, hv⟩ : ∃ v, v7.drewN u = v := ⟨_, rfl⟩
      have HV : Hid (v7.drewN u = v) := hv
      rw [hv] at d3 y3 l0 l1 B9 ⊢
      clear hv h1 h2 j1 j2 KXe KYe
      by_cases hw : W1 = W2
      · have hx := HBS.1 hw
        subst hw
        clear HBS
        have hxl : ((Px.extract (6 * k) (6 * k + 6)).toList == (Qx.extract (6 * k) (6 * k + 6)).toList) = true := by rw [hx]; simp
        go_upto_region 17 with fail
        go_quiet (fail)
        go_wp2
        go_roundw
        case rel => exact ⟨k + 1, _, by omega, by omega, by go_num, by rw [← HV.out]; exact World.drewN_drewN _ _ _⟩
        case measure => simp [RowKit.intOf]; omega
      · have hx : ¬ Px.extract (6 * k) (6 * k + 6) = Qx.extract (6 * k) (6 * k + 6) := fun e => hw (HBS.2 e)
        have hxl : ¬ (Px.extract (6 * k) (6 * k + 6)).toList = (Qx.extract (6 * k) (6 * k + 6)).toList := fun e => hx (toList_inj e)
        have hxl2 : ((Px.extract (6 * k) (6 * k + 6)).toList == (Qx.extract (6 * k) (6 * k + 6)).toList) = false := by simp [hxl]
        have hwz : ¬ (W1 : Int) = (W2 : Int) := by omega
        have hwz2 : ((W1 : Int) == (W2 : Int)) = false := by simp [hwz]
        clear HBS hx hw
        go_upto_region 17 with fail
        go_quiet (fail)
        go_wp2
        go_roundw
        case rel => exact ⟨k + 1, _, by omega, by omega, by go_num, by rw [← HV.out]; exact World.drewN_drewN _ _ _⟩
        case measure => simp [RowKit.intOf]; omega
end Go.Proofs.Ytnhfoojnokiboaa
