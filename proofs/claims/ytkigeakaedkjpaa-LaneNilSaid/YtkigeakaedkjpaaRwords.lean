/-
  The walk of the document's Words.
-/
import Derived.Test.YtkigeakaedkjpaaRok
import Derived.Test.YtkigeakaedkjpaaVw
import Derived.Test.YtkigeakaedkjpaaStage
namespace Go.Proofs.Ytkigeakaedkjpaa
open Go.RowKit

theorem Try.info36 : (Try.prog.info? 36).map (fun i => (i.zero, i.size, i.bytes)) = some (some (.int .u64 0), 1, 8) := by kernel_rfl
theorem own_next {e : TypeId} {w w' : World} {B : Nat} {v : Value} {l : List Value} (h : Own e w B v l) (hb : Below w.heap.size w w') : Own e w' B v l := OwnK.below (k := 1) h hb
/-- A flit's word. -/
theorem wc {f : Fl} (h : f.rightB = true) (w : World) : Calls Try.prog 42 #[flv f] w fun e w' => e = .returned (.tuple #[.int .u64 ((f.word : Nat) : Int), .int .i64 0]) ∧ Below w.heap.size w w' := by
  have := rwrite_any f w
  have e : f.wordR = (f.word, 0) := by unfold Fl.wordR; rw [if_pos h]
  rw [e] at this
  exact this
/-- The first words. -/
def hw (p : Pc) (k : Nat) : List Nat := ((List.range k).map (hdF p)).map Fl.word
def bw (x : ByteArray) (j : Nat) : List Nat := ((List.range j).map (bdF x)).map Fl.word
theorem hw_len (p : Pc) (k : Nat) : (hw p k).length = k := by unfold hw; rw [List.length_map, List.length_map, List.length_range]
theorem bw_len (x : ByteArray) (j : Nat) : (bw x j).length = j := by unfold bw; rw [List.length_map, List.length_map, List.length_range]
theorem vw_len (l : List Nat) : (vw l).length = l.length := by unfold vw; rw [List.length_map]
theorem vw_snoc (l : List Nat) (m : Nat) : vw l ++ [.int .u64 (m : Int)] = vw (l ++ [m]) := by unfold vw; rw [List.map_append]; rfl
theorem hw_snoc (p : Pc) (k : Nat) : hw p k ++ [(hdF p k).word] = hw p (k + 1) := by
  unfold hw
  rw [List.range_succ, List.map_append, List.map_append, List.map_cons, List.map_nil, List.map_cons, List.map_nil]
theorem bw_snoc (x : ByteArray) (k : Nat) : bw x k ++ [(bdF x k).word] = bw x (k + 1) := by
  unfold bw
  rw [List.range_succ, List.map_append, List.map_append, List.map_cons, List.map_nil, List.map_cons, List.map_nil]
theorem ws_parts (p : Pc) : p.ws = (hw p p.hs.length ++ bw p.x (nb p.x.size)) ++ [(tlF p.x).word] := by
  unfold Pc.ws Pc.fls hw bw
  rw [List.map_append, List.map_append, List.append_assoc]
  exact congrArg _ (congrArg _ (List.map_cons ..))
def lenOf : Value → Nat
  | .string b => b.size
  | _ => 0

set_option maxRecDepth 100000 in
set_option maxHeartbeats 16000000 in
theorem rwords_ok (s : Int) (c : Bool) (a : Option Addr) (cap : Nat) (x : ByteArray) (hs : List (Int × Int)) (w : World) (hok : Pc.okB ⟨s, c, hs, x⟩ = true) (hr : Rd w a (pc hs)) :
    Calls Try.prog 27 #[pcv s c (.slice a hs.length cap) x] w fun e w' => ∃ a' cap', e = .returned (.tuple #[.slice a' (Pc.ws ⟨s, c, hs, x⟩).length cap', .int .i64 0]) ∧ (Pc.ws ⟨s, c, hs, x⟩).length ≤ cap' ∧ Rd w' a' (vw (Pc.ws ⟨s, c, hs, x⟩)) ∧ Below w.heap.size w w' := by
  obtain ⟨i0, ki, hz0, hz1, hz2⟩ := info_parts Try.info36
  obtain ⟨⟨-, -⟩, ⟨-, ok2, -⟩, ok3, -⟩ := (ok_iff _).1 hok
  simp only at ok2 ok3
  have HOK : Hid (Pc.okB ⟨s, c, hs, x⟩ = true) := hok
  have CR : ∀ w', Rd w' a (pc hs) → Calls Try.prog 45 #[pcv s c (.slice a hs.length cap) x] w' fun e w2 => e = .returned (.bool true) ∧ Below w'.heap.size w' w2 := fun w' h => by
    have := rok_any s c a cap x hs w' (by omega) (by unfold maxLen; omega) h
    rw [hok] at this
    exact this
  have HR : Hid (Rd w a (pc hs)) := hr
  have CH : Hid (∀ k, k < hs.length → ∀ w, Calls Try.prog 42 #[.agg #[.int .i64 1, .int .i64 s, .int .i64 (hs.getD k (0, 0)).1, .int .i64 (hs.getD k (0, 0)).2, .int .i64 (x.size : Int), .bool (decide (k + 1 < hs.length)), .bool c, .string ⟨#[]⟩]] w fun e w' => e = .returned (.tuple #[.int .u64 (((hdF ⟨s, c, hs, x⟩ k).word : Nat) : Int), .int .i64 0]) ∧ Below w.heap.size w w') := show _ from fun k hk w => wc (hd_right hok hk) w
  have CB : Hid (∀ j, j < nb x.size → ∀ w, Calls Try.prog 42 #[.agg #[.int .i64 2, .int .i64 0, .int .i64 0, .int .i64 0, .int .i64 0, .bool false, .bool false, .string ((restX x j).extract 0 6)]] w fun e w' => e = .returned (.tuple #[.int .u64 (((bdF x j).word : Nat) : Int), .int .i64 0]) ∧ Below w.heap.size w w') := show _ from fun j hj w => by
    rw [restX_head]
    exact wc (bd_right hj) w
  have CT : Hid (∀ w, Calls Try.prog 42 #[.agg #[.int .i64 3, .int .i64 0, .int .i64 0, .int .i64 0, .int .i64 0, .bool false, .bool false, .string (restX x (nb x.size))]] w fun e w' => e = .returned (.tuple #[.int .u64 (((tlF x).word : Nat) : Int), .int .i64 0]) ∧ Below w.heap.size w w') := show _ from fun w => wc (tl_right x) w
  have HWS : Hid (Pc.ws ⟨s, c, hs, x⟩ = (hw ⟨s, c, hs, x⟩ hs.length ++ bw x (nb x.size)) ++ [(tlF x).word]) := ws_parts _
  have HH : Hid (∀ k, vw (hw ⟨s, c, hs, x⟩ k) ++ [.int .u64 (((hdF ⟨s, c, hs, x⟩ k).word : Nat) : Int)] = vw (hw ⟨s, c, hs, x⟩ (k + 1))) := show _ from fun k => by rw [vw_snoc, hw_snoc]
  have HZ0 : Hid (hw ⟨s, c, hs, x⟩ 0 = []) := rfl
  have HLF : ∀ k, (vw (hw ⟨s, c, hs, x⟩ k)).length = k := fun k => by rw [vw_len, hw_len]
  generalize hPW : Pc.ws ⟨s, c, hs, x⟩ = WS at *
  generalize hw ⟨s, c, hs, x⟩ = HWf at *
  obtain ⟨n, hn⟩ : ∃ n, hs.length = n := ⟨_, rfl⟩
  have HN : Hid (hs.length = n) := hn
  rw [hn] at ok2 CR CH HWS ⊢
  clear hr hn hok hPW
  simp only [pcv] at *
  have HB1 : Hid (Below w.heap.size w (w.alloc (.cells #[.int .i64 s, .bool c, .slice a n cap, .string x] 24))) := (Below.refl _ _).alloc (Nat.le_refl _) _
  have H01 : Hid (Bk (w.alloc (.cells #[.int .i64 s, .bool c, .slice a n cap, .string x] 24)) w.heap.size (pcc s c (.slice a n cap) x) 24) := Bk.new _ _ _
  have CR1 := CR (w.alloc (.cells #[.int .i64 s, .bool c, .slice a n cap, .string x] 24)) (HR.out.alloc _)
  clear CR
  have x1 : ¬ (64 : Int) < (x.size : Int) := by omega
  simp only [pcc] at *
  go_enter Try.func27, Try.ntmps27
  go_wp2_with (go_at_call 45; (with_reducible refine CR1.mono ?_); rintro e w2 ⟨rfl, hb2⟩)
  have K0 : Hid (Bk w2 w.heap.size (pcc s c (.slice a n cap) x) 24) := H01.out.next hb2
  have KB : Hid (Below w.heap.size w w2) := HB1.out.trans (hb2.mono HB1.out.size)
  have hz2' : w.heap.size + 1 ≤ w2.heap.size := by have := hb2.size; simp at this; omega
  have VL : Hid (∀ k, (vw (HWf k)).length = k) := HLF
  clear HLF CR1 H01 HB1 hb2
  go_loopw [4, 5] (fun v i wr => ∃ (k : Nat), k ≤ n ∧ i = .int .i64 k ∧ Bk wr w.heap.size (pcc s c (.slice a n cap) x) 24 ∧ Own 36 wr w.heap.size v (vw (HWf k)) ∧ Below w.heap.size w wr ∧ w.heap.size + 1 ≤ wr.heap.size) (fun _ i _ => n - (RowKit.intOf i).toNat)
  case atStart => exact ⟨0, Nat.zero_le _, rfl, K0.out, by rw [HZ0.out]; exact World.ownsRow_nil _ _ _ _, KB.out, hz2'⟩
  case round =>
    obtain ⟨k, hk, rfl, h0, own, hb, hsz⟩ := hrel
    obtain ⟨v, rfl⟩ : ∃ v, v = u4 := ⟨_, rfl⟩
    have HB : Hid (Below w.heap.size w wr) := hb
    have H0 : Hid (Bk wr w.heap.size (pcc s c (.slice a n cap) x) 24) := h0
    have HO : Hid (Own 36 wr w.heap.size v (vw (HWf k))) := own
    have c2 : wr.cell? ⟨w.heap.size, 2, none⟩ = some (.slice a n cap) := h0.cell 2
    have c5 : wr.cell? ⟨w.heap.size, 3, none⟩ = some (.string x) := h0.cell 3
    clear h0 K0 KB hb own hz2'
    by_cases hlt : k < n
    · have e1 : (k : Int) < (n : Int) := by omega
      have e2 : (0 : Int) ≤ (k : Int) := by omega
      obtain ⟨g, o, rfl, hg, c3, c4⟩ := HR.out.pair (k := k) (by rw [HN.out]; exact hlt)
      have hst := HH.out k
      have hcw := CH.out k hlt
      have hll : (vw (HWf k)).length ≤ 1000000 := by rw [VL.out]; omega
      clear HH CH
      generalize (hdF ⟨s, c, hs, x⟩ k).word = W at *
      generalize (hs.getD k (0, 0)).1 = p at *
      generalize (hs.getD k (0, 0)).2 = q at *
      have HST : Hid (vw (HWf k) ++ [.int .u64 (W : Int)] = vw (HWf (k + 1))) := hst
      clear hst
      generalize vw (HWf k) = L at *
      have SS : ∀ V, Bk V w.heap.size (pcc s c (.slice (some ⟨g, o, none⟩) n cap) x) 24 → Below w.heap.size w V → V.cell? ⟨w.heap.size, 0, none⟩ = some (.int .i64 s) ∧ V.cell? ⟨w.heap.size, 1, none⟩ = some (.bool c) ∧ V.cell? ⟨w.heap.size, 2, none⟩ = some (.slice (some ⟨g, o, none⟩) n cap) ∧ V.cell? ⟨w.heap.size, 3, none⟩ = some (.string x) ∧ V.cell? ⟨g, o + k * 2, none⟩ = some (.int .i64 p) ∧ V.cell? ⟨g, o + k * 2 + 1, none⟩ = some (.int .i64 q) :=
        fun V h hb => ⟨h.cell 0, h.cell 1, h.cell 2, h.cell 3, (hb.cell (p := ⟨g, o + k * 2, none⟩) hg).trans c3, (hb.cell (p := ⟨g, o + k * 2 + 1, none⟩) hg).trans c4⟩
      have S0 : (fun V : World => V.cell? ⟨w.heap.size, 0, none⟩ = some (.int .i64 s) ∧ V.cell? ⟨w.heap.size, 1, none⟩ = some (.bool c) ∧ V.cell? ⟨w.heap.size, 2, none⟩ = some (.slice (some ⟨g, o, none⟩) n cap) ∧ V.cell? ⟨w.heap.size, 3, none⟩ = some (.string x) ∧ V.cell? ⟨g, o + k * 2, none⟩ = some (.int .i64 p) ∧ V.cell? ⟨g, o + k * 2 + 1, none⟩ = some (.int .i64 q)) wr.drew := SS wr.drew H0.out.drew HB.out.drew
      have hwr : IntKind.i64.wrap ((k : Int) + 1) = (k : Int) + 1 := by first | exact IntWalk.i64_in _ (by omega) | (rw [IntKind.wrap_i64]; omega)
      rw [show decide (k + 1 < n) = decide (IntKind.i64.wrap ((k : Int) + 1) < (n : Int)) by rw [hwr]; exact decide_eq_decide.2 (by omega)] at hcw
      have CW : Hid (∀ w, Calls Try.prog 42 #[.agg #[.int .i64 1, .int .i64 s, .int .i64 p, .int .i64 q, .int .i64 (x.size : Int), .bool (decide (IntKind.i64.wrap ((k : Int) + 1) < (n : Int))), .bool c, .string ⟨#[]⟩]] w fun e w' => e = .returned (.tuple #[.int .u64 (W : Int), .int .i64 0]) ∧ Below w.heap.size w w') := hcw
      clear hcw hwr
      go_wp2_with fail
      refine wp_region_G (fun V : World => V.cell? ⟨w.heap.size, 0, none⟩ = some (.int .i64 s) ∧ V.cell? ⟨w.heap.size, 1, none⟩ = some (.bool c) ∧ V.cell? ⟨w.heap.size, 2, none⟩ = some (.slice (some ⟨g, o, none⟩) n cap) ∧ V.cell? ⟨w.heap.size, 3, none⟩ = some (.string x) ∧ V.cell? ⟨g, o + k * 2, none⟩ = some (.int .i64 p) ∧ V.cell? ⟨g, o + k * 2 + 1, none⟩ = some (.int .i64 q)) 31 (by kernel_rfl) ?_
      refine wpAnyG_take [31] (some 28) (i := 0) (v := ?vr0) rfl rfl (by kernel_rfl) (by kernel_rfl) (by kernel_rfl) (by kernel_rfl) (fun _ _ _ h => h) (Or.inl ⟨by rfl, ?yr0⟩) S0 ?rr0
      case yr0 => (intro V hSV; obtain ⟨d0, d1, d2, d3, d4, d5⟩ := hSV; go_simp; try with_reducible rfl)
      simp only [Act.put, List.setIfInBounds_toArray, List.set_cons_zero, List.set_cons_succ]
      refine wpAnyG_take [31] (some 29) (i := 1) (v := ?vr1) rfl rfl (by kernel_rfl) (by kernel_rfl) (by kernel_rfl) (by kernel_rfl) (fun _ _ _ h => h) (Or.inl ⟨by rfl, ?yr1⟩) S0 ?rr1
      case yr1 => (intro V hSV; obtain ⟨d0, d1, d2, d3, d4, d5⟩ := hSV; go_simp; try with_reducible rfl)
      simp only [Act.put, List.setIfInBounds_toArray, List.set_cons_zero, List.set_cons_succ]
      refine wpAnyG_take [31] (some 30) (i := 2) (v := ?vr2) rfl rfl (by kernel_rfl) (by kernel_rfl) (by kernel_rfl) (by kernel_rfl) (fun _ _ _ h => h) (Or.inl ⟨by rfl, ?yr2⟩) S0 ?rr2
      case yr2 => (intro V hSV; obtain ⟨d0, d1, d2, d3, d4, d5⟩ := hSV; go_simp; try with_reducible rfl)
      simp only [Act.put, List.setIfInBounds_toArray, List.set_cons_zero, List.set_cons_succ]
      refine wpAnyG_take [31] (some 31) (i := 3) (v := ?vr3) rfl rfl (by kernel_rfl) (by kernel_rfl) (by kernel_rfl) (by kernel_rfl) (fun _ _ _ h => h) (Or.inl ⟨by rfl, ?yr3⟩) S0 ?rr3
      case yr3 => (intro V hSV; obtain ⟨d0, d1, d2, d3, d4, d5⟩ := hSV; go_simp; try with_reducible rfl)
      simp only [Act.put, List.setIfInBounds_toArray, List.set_cons_zero, List.set_cons_succ]
      refine wpAnyG_take [31] (some 32) (i := 4) (v := ?vr4) rfl rfl (by kernel_rfl) (by kernel_rfl) (by kernel_rfl) (by kernel_rfl) (fun _ _ _ h => h) (Or.inl ⟨by rfl, ?yr4⟩) S0 ?rr4
      case yr4 => (intro V hSV; obtain ⟨d0, d1, d2, d3, d4, d5⟩ := hSV; go_simp; try with_reducible rfl)
      simp only [Act.put, List.setIfInBounds_toArray, List.set_cons_zero, List.set_cons_succ]
      refine wpAnyG_take [31] (some 33) (i := 5) (v := ?vr5) rfl rfl (by kernel_rfl) (by kernel_rfl) (by kernel_rfl) (by kernel_rfl) (fun _ _ _ h => h) (Or.inl ⟨by rfl, ?yr5⟩) S0 ?rr5
      case yr5 => (intro V hSV; obtain ⟨d0, d1, d2, d3, d4, d5⟩ := hSV; go_simp; try with_reducible rfl)
      simp only [Act.put, List.setIfInBounds_toArray, List.set_cons_zero, List.set_cons_succ]
      refine wpAnyG_take [31] (some 34) (i := 6) (v := ?vr6) rfl rfl (by kernel_rfl) (by kernel_rfl) (by kernel_rfl) (by kernel_rfl) (fun _ _ _ h => h) (Or.inl ⟨by rfl, ?yr6⟩) S0 ?rr6
      case yr6 => (intro V hSV; obtain ⟨d0, d1, d2, d3, d4, d5⟩ := hSV; go_simp; try with_reducible rfl)
      simp only [Act.put, List.setIfInBounds_toArray, List.set_cons_zero, List.set_cons_succ]
      refine wpAnyG_take [31] (some 35) (i := 7) (v := ?vr7) rfl rfl (by kernel_rfl) (by kernel_rfl) (by kernel_rfl) (by kernel_rfl) (fun _ _ _ h => h) (Or.inl ⟨by rfl, ?yr7⟩) S0 ?rr7
      case yr7 => (intro V hSV; obtain ⟨d0, d1, d2, d3, d4, d5⟩ := hSV; go_simp; try with_reducible rfl)
      simp only [Act.put, List.setIfInBounds_toArray, List.set_cons_zero, List.set_cons_succ]
      refine wpAnyG_take [31] (some 36) (i := 8) (v := ?vr8) rfl rfl (by kernel_rfl) (by kernel_rfl) (by kernel_rfl) (by kernel_rfl) (fun _ _ _ h => h) (Or.inl ⟨by rfl, ?yr8⟩) S0 ?rr8
      case yr8 => (intro V hSV; obtain ⟨d0, d1, d2, d3, d4, d5⟩ := hSV; go_simp; try with_reducible rfl)
      simp only [Act.put, List.setIfInBounds_toArray, List.set_cons_zero, List.set_cons_succ]
      refine wpAnyG_take [31] (some 37) (i := 9) (v := ?vr9) rfl rfl (by kernel_rfl) (by kernel_rfl) (by kernel_rfl) (by kernel_rfl) (fun _ _ _ h => h) (Or.inl ⟨by rfl, ?yr9⟩) S0 ?rr9
      case yr9 => (intro V hSV; obtain ⟨d0, d1, d2, d3, d4, d5⟩ := hSV; go_simp; try with_reducible rfl)
      simp only [Act.put, List.setIfInBounds_toArray, List.set_cons_zero, List.set_cons_succ]
      refine wpAnyG_take [31] (some 38) (i := 10) (v := ?vr10) rfl rfl (by kernel_rfl) (by kernel_rfl) (by kernel_rfl) (by kernel_rfl) (fun _ _ _ h => h) (Or.inl ⟨by rfl, ?yr10⟩) S0 ?rr10
      case yr10 => (intro V hSV; obtain ⟨d0, d1, d2, d3, d4, d5⟩ := hSV; go_simp; try with_reducible rfl)
      simp only [Act.put, List.setIfInBounds_toArray, List.set_cons_zero, List.set_cons_succ]
      refine wpAnyG_take [31] (some 39) (i := 11) (v := ?vr11) rfl rfl (by kernel_rfl) (by kernel_rfl) (by kernel_rfl) (by kernel_rfl) (fun _ _ _ h => h) (Or.inl ⟨by rfl, ?yr11⟩) S0 ?rr11
      case yr11 => (intro V hSV; obtain ⟨d0, d1, d2, d3, d4, d5⟩ := hSV; go_simp; try with_reducible rfl)
      simp only [Act.put, List.setIfInBounds_toArray, List.set_cons_zero, List.set_cons_succ]
      refine wpAnyG_take [31] (some 40) (i := 12) (v := ?vr12) rfl rfl (by kernel_rfl) (by kernel_rfl) (by kernel_rfl) (by kernel_rfl) (fun _ _ _ h => h) (Or.inl ⟨by rfl, ?yr12⟩) S0 ?rr12
      case yr12 => (intro V hSV; obtain ⟨d0, d1, d2, d3, d4, d5⟩ := hSV; go_simp; try with_reducible rfl)
      simp only [Act.put, List.setIfInBounds_toArray, List.set_cons_zero, List.set_cons_succ]
      refine wpAnyG_take [31] (some 41) (i := 13) (v := ?vr13) rfl rfl (by kernel_rfl) (by kernel_rfl) (by kernel_rfl) (by kernel_rfl) (fun _ _ _ h => h) (Or.inl ⟨by rfl, ?yr13⟩) S0 ?rr13
      case yr13 => (intro V hSV; obtain ⟨d0, d1, d2, d3, d4, d5⟩ := hSV; go_simp; try with_reducible rfl)
      simp only [Act.put, List.setIfInBounds_toArray, List.set_cons_zero, List.set_cons_succ]
      refine wpAnyG_take [31] (some 42) (i := 14) (v := ?vr14) rfl rfl (by kernel_rfl) (by kernel_rfl) (by kernel_rfl) (by kernel_rfl) (fun _ _ _ h => h) (Or.inl ⟨by rfl, ?yr14⟩) S0 ?rr14
      case yr14 => (intro V hSV; obtain ⟨d0, d1, d2, d3, d4, d5⟩ := hSV; go_simp; try with_reducible rfl)
      simp only [Act.put, List.setIfInBounds_toArray, List.set_cons_zero, List.set_cons_succ]
      refine wpAnyG_take [31] (some 43) (i := 15) (v := ?vr15) rfl rfl (by kernel_rfl) (by kernel_rfl) (by kernel_rfl) (by kernel_rfl) (fun _ _ _ h => h) (Or.inl ⟨by rfl, ?yr15⟩) S0 ?rr15
      case yr15 => (intro V hSV; obtain ⟨d0, d1, d2, d3, d4, d5⟩ := hSV; go_simp; try with_reducible rfl)
      simp only [Act.put, List.setIfInBounds_toArray, List.set_cons_zero, List.set_cons_succ]
      refine wpAnyG_take [31] (some 44) (i := 16) (v := ?vr16) rfl rfl (by kernel_rfl) (by kernel_rfl) (by kernel_rfl) (by kernel_rfl) (fun _ _ _ h => h) (Or.inl ⟨by rfl, ?yr16⟩) S0 ?rr16
      case yr16 => (intro V hSV; obtain ⟨d0, d1, d2, d3, d4, d5⟩ := hSV; go_simp; try with_reducible rfl)
      simp only [Act.put, List.setIfInBounds_toArray, List.set_cons_zero, List.set_cons_succ]
      refine wpAnyG_take [31] (some 45) (i := 17) (v := ?vr17) rfl rfl (by kernel_rfl) (by kernel_rfl) (by kernel_rfl) (by kernel_rfl) (fun _ _ _ h => h) (Or.inl ⟨by rfl, ?yr17⟩) S0 ?rr17
      case yr17 => (intro V hSV; obtain ⟨d0, d1, d2, d3, d4, d5⟩ := hSV; go_simp; try with_reducible rfl)
      simp only [Act.put, List.setIfInBounds_toArray, List.set_cons_zero, List.set_cons_succ]
      refine wpAnyG_take [31] (some 46) (i := 18) (v := ?vr18) rfl rfl (by kernel_rfl) (by kernel_rfl) (by kernel_rfl) (by kernel_rfl) (fun _ _ _ h => h) (Or.inl ⟨by rfl, ?yr18⟩) S0 ?rr18
      case yr18 => (intro V hSV; obtain ⟨d0, d1, d2, d3, d4, d5⟩ := hSV; go_simp; try with_reducible rfl)
      simp only [Act.put, List.setIfInBounds_toArray, List.set_cons_zero, List.set_cons_succ]
      refine wpAnyG_take [31] (some 47) (i := 19) (v := ?vr19) rfl rfl (by kernel_rfl) (by kernel_rfl) (by kernel_rfl) (by kernel_rfl) (fun _ _ _ h => h) (Or.inl ⟨by rfl, ?yr19⟩) S0 ?rr19
      case yr19 => (intro V hSV; obtain ⟨d0, d1, d2, d3, d4, d5⟩ := hSV; go_simp; try with_reducible rfl)
      simp only [Act.put, List.setIfInBounds_toArray, List.set_cons_zero, List.set_cons_succ]
      refine wpAnyG_take [31] (some 48) (i := 20) (v := ?vr20) rfl rfl (by kernel_rfl) (by kernel_rfl) (by kernel_rfl) (by kernel_rfl) (fun _ _ _ h => h) (Or.inl ⟨by rfl, ?yr20⟩) S0 ?rr20
      case yr20 => (intro V hSV; obtain ⟨d0, d1, d2, d3, d4, d5⟩ := hSV; go_simp; try with_reducible rfl)
      simp only [Act.put, List.setIfInBounds_toArray, List.set_cons_zero, List.set_cons_succ]
      refine wpAnyG_take [31] (some 49) (i := 21) (v := ?vr21) rfl rfl (by kernel_rfl) (by kernel_rfl) (by kernel_rfl) (by kernel_rfl) (fun _ _ _ h => h) (Or.inl ⟨by rfl, ?yr21⟩) S0 ?rr21
      case yr21 => (intro V hSV; obtain ⟨d0, d1, d2, d3, d4, d5⟩ := hSV; go_simp; try with_reducible rfl)
      simp only [Act.put, List.setIfInBounds_toArray, List.set_cons_zero, List.set_cons_succ]
      refine wpAnyG_take [31] (some 50) (i := 22) (v := ?vr22) rfl rfl (by kernel_rfl) (by kernel_rfl) (by kernel_rfl) (by kernel_rfl) (fun _ _ _ h => h) (Or.inl ⟨by rfl, ?yr22⟩) S0 ?rr22
      case yr22 => (intro V hSV; obtain ⟨d0, d1, d2, d3, d4, d5⟩ := hSV; go_simp; try with_reducible rfl)
      simp only [Act.put, List.setIfInBounds_toArray, List.set_cons_zero, List.set_cons_succ]
      refine wpAnyG_take [31] (some 51) (i := 23) (v := ?vr23) rfl rfl (by kernel_rfl) (by kernel_rfl) (by kernel_rfl) (by kernel_rfl) (fun _ _ _ h => h) (Or.inl ⟨by rfl, ?yr23⟩) S0 ?rr23
      case yr23 => (intro V hSV; obtain ⟨d0, d1, d2, d3, d4, d5⟩ := hSV; go_simp; try with_reducible rfl)
      simp only [Act.put, List.setIfInBounds_toArray, List.set_cons_zero, List.set_cons_succ]
      refine wpAnyG_take [31] (some 52) (i := 24) (v := ?vr24) rfl rfl (by kernel_rfl) (by kernel_rfl) (by kernel_rfl) (by kernel_rfl) (fun _ _ _ h => h) (Or.inl ⟨by rfl, ?yr24⟩) S0 ?rr24
      case yr24 => (intro V hSV; obtain ⟨d0, d1, d2, d3, d4, d5⟩ := hSV; go_simp; try with_reducible rfl)
      simp only [Act.put, List.setIfInBounds_toArray, List.set_cons_zero, List.set_cons_succ]
      refine wpAnyG_take [31] (some 53) (i := 25) (v := ?vr25) rfl rfl (by kernel_rfl) (by kernel_rfl) (by kernel_rfl) (by kernel_rfl) (fun _ _ _ h => h) (Or.inl ⟨by rfl, ?yr25⟩) S0 ?rr25
      case yr25 => (intro V hSV; obtain ⟨d0, d1, d2, d3, d4, d5⟩ := hSV; go_simp; try with_reducible rfl)
      simp only [Act.put, List.setIfInBounds_toArray, List.set_cons_zero, List.set_cons_succ]
      refine wpAnyG_one (i := 26) (by kernel_rfl) rfl (fun K hK => ?_)
      go_simp
      with_reducible refine (CW.out _).mono ?_
      rintro e wa ⟨rfl, hba⟩
      have F0 := H0.out.drew.next hba
      have FB := HB.out.drew.trans (hba.mono HB.out.drew.size)
      have S3 : (fun V : World => V.cell? ⟨w.heap.size, 0, none⟩ = some (.int .i64 s) ∧ V.cell? ⟨w.heap.size, 1, none⟩ = some (.bool c) ∧ V.cell? ⟨w.heap.size, 2, none⟩ = some (.slice (some ⟨g, o, none⟩) n cap) ∧ V.cell? ⟨w.heap.size, 3, none⟩ = some (.string x) ∧ V.cell? ⟨g, o + k * 2, none⟩ = some (.int .i64 p) ∧ V.cell? ⟨g, o + k * 2 + 1, none⟩ = some (.int .i64 q)) wa := SS wa F0 FB
      refine hK.out _ _ (Or.inr S3) ?_
      clear hK K
      try simp only [Act.put, List.setIfInBounds_toArray, List.set_cons_zero, List.set_cons_succ]
      refine wpAnyG_take [31] (some 27) (i := 27) (v := ?vr27) rfl rfl (by kernel_rfl) (by kernel_rfl) (by kernel_rfl) (by kernel_rfl) (fun _ _ _ h => h) (Or.inl ⟨by rfl, ?yr27⟩) S3 ?rr27
      case yr27 => (intro V hSV; obtain ⟨d0, d1, d2, d3, d4, d5⟩ := hSV; go_simp; try with_reducible rfl)
      simp only [Act.put, List.setIfInBounds_toArray, List.set_cons_zero, List.set_cons_succ]
      refine wpAnyG_take [31] (some 55) (i := 28) (v := ?vr28) rfl rfl (by kernel_rfl) (by kernel_rfl) (by kernel_rfl) (by kernel_rfl) (fun _ _ _ h => h) (Or.inl ⟨by rfl, ?yr28⟩) S3 ?rr28
      case yr28 => (intro V hSV; obtain ⟨d0, d1, d2, d3, d4, d5⟩ := hSV; go_simp; try with_reducible rfl)
      simp only [Act.put, List.setIfInBounds_toArray, List.set_cons_zero, List.set_cons_succ]
      refine wpAnyG_take [31] (some 56) (i := 29) (v := ?vr29) rfl rfl (by kernel_rfl) (by kernel_rfl) (by kernel_rfl) (by kernel_rfl) (fun _ _ _ h => h) (Or.inl ⟨by rfl, ?yr29⟩) S3 ?rr29
      case yr29 => (intro V hSV; obtain ⟨d0, d1, d2, d3, d4, d5⟩ := hSV; go_simp; try with_reducible rfl)
      simp only [Act.put, List.setIfInBounds_toArray, List.set_cons_zero, List.set_cons_succ]
      refine wpAnyG_one (i := 30) (by kernel_rfl) rfl (fun K hK => ?_)
      go_simp
      refine hK.out _ _ (Or.inr S3) ?_
      clear hK K
      refine wpAnyG_one (i := 31) (by kernel_rfl) rfl (fun K hK => ?_)
      go_simp
      refine hK.out _ _ (Or.inl (by kernel_rfl)) ?_
      clear hK K
      refine wpAnyG_done (by kernel_rfl) ?_ _
      have own : Own 36 wa w.heap.size v L := own_next HO.out ((Below.drew (Below.refl _ _)).trans hba)
      have hsa : w.heap.size + 1 ≤ wa.heap.size := Nat.le_trans hsz hba.size
      have hbl : Below w.heap.size w wa := FB
      have hbk : wa.heap[w.heap.size]? = some (.cells (pcc s c (.slice (some ⟨g, o, none⟩) n cap) x) 24 (0, 0)) := F0
      clear S3 F0 FB hba S0 SS HO H0 HB c3 c4
      go_wp2_with (at_builtin; go_loud (refine wpList_app_one rfl (.tmp 57) (.tmp 59) 27 36 i0 (.int .u64 0) 8 rfl Try.underlying27 ki hz0 hz1 hz2 rfl (by decide) w.heap.size wa _ _ (.int .u64 ((W : Nat) : Int)) rfl own rfl rfl hll (Nat.le_of_succ_le hsa) ?_; intro v1' wb o1 kb; have ab := kb.2.1 _ hbl; have bb := kb.2.2.2 _ _ _ _ (show 24 ≠ 36 by decide) hbk; have zb := kb.1; clear kb own hbl hbk))
      rw [HST.out] at o1
      go_roundw
      case rel => exact ⟨k + 1, by omega, by go_num, bb, o1, ab, Nat.le_trans hsa zb⟩
      case measure => simp [RowKit.intOf]; omega
    · obtain rfl : k = n := by omega
      have e1 : ¬ (k : Int) < (k : Int) := by omega
      clear HH CH
      have WN : Hid (WS = HWf k ++ bw x (nb x.size) ++ [(tlF x).word]) := HWS.out
      have BS : Hid (∀ j, vw (HWf k ++ bw x j) ++ [.int .u64 (((bdF x j).word : Nat) : Int)] = vw (HWf k ++ bw x (j + 1))) := show _ from fun j => by rw [vw_snoc, List.append_assoc, bw_snoc]
      have LH : Hid (∀ j, (vw (HWf k ++ bw x j)).length = k + j) := show _ from fun j => by
        have := VL.out k
        rw [vw_len] at this
        rw [vw_len, List.length_append, this, bw_len]
      have O0 : Hid (Own 36 wr w.heap.size v (vw (HWf k ++ bw x 0))) := by
        rw [show bw x 0 = [] from rfl, List.append_nil]
        exact HO.out
      have NB : Hid (nb x.size ≤ 10) := show nb x.size ≤ 10 by unfold nb; omega
      clear HWS HO VL HZ0 HR
      go_wp2_with fail
      go_loopw [4, 8] (fun v r wr => ∃ (j : Nat), j ≤ nb x.size ∧ r = .string (restX x j) ∧ Bk wr w.heap.size (pcc s c (.slice a k cap) x) 24 ∧ Own 36 wr w.heap.size v (vw (HWf k ++ bw x j)) ∧ Below w.heap.size w wr ∧ w.heap.size + 1 ≤ wr.heap.size) (fun _ r _ => lenOf r)
      case atStart => exact ⟨0, Nat.zero_le _, by rw [restX_zero], H0.out, O0.out, HB.out, hsz⟩
      case round =>
      obtain ⟨j, hj, rfl, h0, own, hb, hsz2⟩ := hrel
      obtain ⟨v2, rfl⟩ : ∃ v2, v2 = u4 := ⟨_, rfl⟩
      have HO2 : Hid (Own 36 _ w.heap.size v2 (vw (HWf k ++ bw x j))) := own
      have H2 : Hid (Bk _ w.heap.size (pcc s c (.slice a k cap) x) 24) := h0
      have HB2 : Hid (Below w.heap.size w _) := hb
      clear h0 own hb H0 HB O0 c2 c5
      have hll : (vw (HWf k ++ bw x j)).length ≤ 1000000 := by rw [LH.out]; have := NB.out; omega
      by_cases hjn : j < nb x.size
      · have h6 : 6 < (restX x j).size := nb_more.1 hjn
        have h64 : (restX x j).size ≤ 64 := by rw [restX_size]; omega
        have HRT : Hid ((restX x j).extract 6 (restX x j).size = restX x (j + 1)) := restX_tail x j
        have hcb := CB.out j hjn
        have hst := BS.out j
        clear CB CT BS WN
        generalize restX x j = R at *
        generalize (bdF x j).word = W at *
        have HST : Hid (vw (HWf k ++ bw x j) ++ [.int .u64 (W : Int)] = vw (HWf k ++ bw x (j + 1))) := hst
        clear hst
        generalize vw (HWf k ++ bw x j) = L at *
        have f1 : (6 : Int) < (R.size : Int) := by omega
        have f2 : (6 : Int) ≤ (R.size : Int) := by omega
        have f3 : 6 ≤ R.size := by omega
        go_wp2_with (first
          | (go_at_call 42; (with_reducible refine (hcb _).mono ?_); rintro e wa ⟨rfl, hba⟩; have own : Own 36 wa w.heap.size v2 L := own_next HO2.out hba; have hsa : w.heap.size + 1 ≤ wa.heap.size := Nat.le_trans hsz2 hba.size; have hbl : Below w.heap.size w wa := HB2.out.trans (hba.mono HB2.out.size); have hbk : wa.heap[w.heap.size]? = some (.cells (pcc s c (.slice a k cap) x) 24 (0, 0)) := H2.out.next hba; clear hba HO2 HB2 H2)
          | (at_builtin; go_loud (refine wpList_app_one rfl (.tmp 73) (.tmp 75) 27 36 i0 (.int .u64 0) 8 rfl Try.underlying27 ki hz0 hz1 hz2 rfl (by decide) w.heap.size wa _ _ (.int .u64 ((W : Nat) : Int)) rfl own rfl rfl hll (Nat.le_of_succ_le hsa) ?_; intro v1' wb o1 kb; have ab := kb.2.1 _ hbl; have bb := kb.2.2.2 _ _ _ _ (show 24 ≠ 36 by decide) hbk; have zb := kb.1; clear kb own hbl hbk)))
        rw [HST.out] at o1
        go_roundw
        case rel => exact ⟨j + 1, by omega, by rw [HRT.out], bb, o1, ab, Nat.le_trans hsa zb⟩
        case measure =>
          simp [lenOf]
          omega
      · obtain rfl : j = nb x.size := by omega
        have h6 : (restX x (nb x.size)).size ≤ 6 := nb_end
        have hct := CT.out
        have hst : vw (HWf k ++ bw x (nb x.size)) ++ [.int .u64 (((tlF x).word : Nat) : Int)] = vw WS := by rw [vw_snoc, ← WN.out]
        clear CB CT BS WN
        generalize restX x (nb x.size) = R at *
        generalize (tlF x).word = W at *
        have HST : Hid (vw (HWf k ++ bw x (nb x.size)) ++ [.int .u64 (W : Int)] = vw WS) := hst
        clear hst
        generalize vw (HWf k ++ bw x (nb x.size)) = L at *
        have f1 : ¬ (6 : Int) < (R.size : Int) := by omega
        go_wp2_with (first
          | (go_at_call 42; (with_reducible refine (hct _).mono ?_); rintro e wa ⟨rfl, hba⟩; have own : Own 36 wa w.heap.size v2 L := own_next HO2.out hba; have hsa : w.heap.size + 1 ≤ wa.heap.size := Nat.le_trans hsz2 hba.size; have hbl : Below w.heap.size w wa := HB2.out.trans (hba.mono HB2.out.size); have hbk : wa.heap[w.heap.size]? = some (.cells (pcc s c (.slice a k cap) x) 24 (0, 0)) := H2.out.next hba; clear hba HO2 HB2 H2)
          | (at_builtin; go_loud (refine wpList_app_one rfl (.tmp 85) (.tmp 87) 27 36 i0 (.int .u64 0) 8 rfl Try.underlying27 ki hz0 hz1 hz2 rfl (by decide) w.heap.size wa _ _ (.int .u64 ((W : Nat) : Int)) rfl own rfl rfl hll (Nat.le_of_succ_le hsa) ?_; intro v1' wb o1 kb; have ab := kb.2.1 _ hbl; have bb := kb.2.2.2 _ _ _ _ (show 24 ≠ 36 by decide) hbk; have zb := kb.1; clear kb own hbl hbk)))
        rw [HST.out] at o1
        obtain ⟨ra, za, rfl, hcz, _, rr⟩ := o1.rd
        rw [vw_len] at hcz ⊢
        refine bodyPost_ret (v := .tuple #[.slice ra WS.length za, .int .i64 0]) (by simp [results, Try.results27, go_sem]) rfl ⟨ra, za, rfl, hcz, rr, ab⟩

set_option maxRecDepth 100000 in
set_option maxHeartbeats 1600000 in
theorem rwords_any (s : Int) (c : Bool) (a : Option Addr) (cap : Nat) (x : ByteArray) (hs : List (Int × Int)) (w : World) (hl : hs.length ≤ 1000000) (hx : x.size ≤ maxLen) (hr : Rd w a (pc hs)) :
    Calls Try.prog 27 #[pcv s c (.slice a hs.length cap) x] w fun e w' => ∃ a' cap', e = .returned (.tuple #[.slice a' (Pc.wordsR ⟨s, c, hs, x⟩).1.length cap', .int .i64 (Pc.wordsR ⟨s, c, hs, x⟩).2]) ∧ (Pc.wordsR ⟨s, c, hs, x⟩).1.length ≤ cap' ∧ Rd w' a' (vw (Pc.wordsR ⟨s, c, hs, x⟩).1) ∧ Below w.heap.size w w' := by
  have RN : ∀ w', Rd w' none (vw []) := fun w' j v hj => by simp [vw] at hj
  by_cases h64 : 64 < x.size
  · rw [show Pc.wordsR ⟨s, c, hs, x⟩ = ([], 4) by unfold Pc.wordsR; rw [if_pos h64]]
    have f1 : (64 : Int) < (x.size : Int) := by omega
    simp only [pcv, pcc] at *
    go_enter Try.func27, Try.ntmps27
    go_wp2_with fail
    exact bodyPost_ret (v := .tuple #[.slice none 0 0, .int .i64 4]) (by simp [results, Try.results27, go_sem]) rfl ⟨none, 0, rfl, Nat.le_refl _, RN _, (Below.refl _ _).alloc (Nat.le_refl _) _⟩
  by_cases hok : Pc.okB ⟨s, c, hs, x⟩ = true
  · rw [show Pc.wordsR ⟨s, c, hs, x⟩ = (Pc.ws ⟨s, c, hs, x⟩, 0) by unfold Pc.wordsR; rw [if_neg h64, if_pos hok]]
    exact rwords_ok s c a cap x hs w hok hr
  rw [show Pc.wordsR ⟨s, c, hs, x⟩ = ([], 1) by unfold Pc.wordsR; rw [if_neg h64, if_neg hok]]
  have CR : ∀ w', Rd w' a (pc hs) → Calls Try.prog 45 #[pcv s c (.slice a hs.length cap) x] w' fun e w2 => e = .returned (.bool false) ∧ Below w'.heap.size w' w2 := fun w' h => by
    have := rok_any s c a cap x hs w' hl hx h
    rw [show Pc.okB ⟨s, c, hs, x⟩ = false by simpa using hok] at this
    exact this
  have f1 : ¬ (64 : Int) < (x.size : Int) := by omega
  simp only [pcv, pcc] at *
  obtain ⟨n, hn⟩ : ∃ n, hs.length = n := ⟨_, rfl⟩
  rw [hn] at CR ⊢
  have HB1 : Hid (Below w.heap.size w (w.alloc (.cells #[.int .i64 s, .bool c, .slice a n cap, .string x] 24))) := (Below.refl _ _).alloc (Nat.le_refl _) _
  have CR1 := CR (w.alloc (.cells #[.int .i64 s, .bool c, .slice a n cap, .string x] 24)) (hr.alloc _)
  clear CR hr hn hok
  go_enter Try.func27, Try.ntmps27
  go_wp2_with (go_at_call 45; (with_reducible refine CR1.mono ?_); rintro e w2 ⟨rfl, hb2⟩)
  exact bodyPost_ret (v := .tuple #[.slice none 0 0, .int .i64 1]) (by simp [results, Try.results27, go_sem]) rfl ⟨none, 0, rfl, Nat.le_refl _, RN _, HB1.out.trans (hb2.mono HB1.out.size)⟩
end Go.Proofs.Ytkigeakaedkjpaa
